import Derived.Test.YtimpjodbfflakaaRefF
namespace Go.Proofs.Ytimpjodbfflakaa
open Go.RowKit
theorem limbs_new (w : World) (x : Nat) (hx : x < 4294967296) (E : Int) (hE : E = (x : Int)) : Limbs (w.alloc (.cells #[.int .u32 E] 37)) (some ⟨w.heap.size, 0, none⟩) 1 [x] := by
  subst hE
  refine ⟨⟨rfl, fun _ => ⟨_, rfl, by simp, ?_⟩⟩, by omega, by simpa using hx⟩
  exact cells_one w (.int .u32 (x : Int)) 37
theorem base_two : digs 1000000000 (val 1000000000 [999999999] + val 1000000000 [1]) = [0, 1] := by
  have h := trim_eq_digs 1000000000 (by omega) [0, 1] (by intro x hx; simp at hx; omega)
  have e : val 1000000000 [0, 1] = val 1000000000 [999999999] + val 1000000000 [1] := by simp only [val]
  rw [e] at h
  rw [← h]; rfl
theorem base_one : digs 1000000000 (val 1000000000 [0, 1] - val 1000000000 [1]) = [999999999] := by
  have h := trim_eq_digs 1000000000 (by omega) [999999999] (by intro x hx; simp at hx; omega)
  have e : val 1000000000 [999999999] = val 1000000000 [0, 1] - val 1000000000 [1] := by simp only [val]
  rw [e] at h
  rw [← h]; rfl
theorem base_lt : ∀ x ∈ [999999999], x < 1000000000 := by intro x hx; simp at hx; omega
theorem base_lt1 : ∀ x ∈ [1], x < 1000000000 := by intro x hx; simp at hx; omega
theorem base_lt2 : ∀ x ∈ [0, 1], x < 1000000000 := by intro x hx; simp at hx; omega
set_option maxHeartbeats 800000 in
set_option maxRecDepth 100000 in
theorem answers_c (w : World) :
    Calls Try.prog 11 #[] w fun e w' => e = .returned (.bool true) ∧ Below w.heap.size w w' := by
  have hb0 := Lib.hid ((Below.refl w.heap.size w).alloc (Nat.le_refl _) (.cells #[.int .u32 999999999] 37))
  have L1 := limbs_new w 999999999 (by omega) 999999999 rfl
  have L2 := limbs_new (w.alloc (.cells #[.int .u32 999999999] 37)) 1 (by omega) 1 rfl
  have hb1 := (Below.refl (w.alloc (.cells #[.int .u32 999999999] 37)).heap.size (w.alloc (.cells #[.int .u32 999999999] 37))).alloc (Nat.le_refl _) (.cells #[.int .u32 1] 37)
  have CA := Lib.hid (add_c _ _ 1 1 1 1 _ _ _ (L1.below hb1) L2 base_lt base_lt1 (by omega) (by omega))
  have HB1 := Lib.hid (hb0.out.trans (hb1.mono (by simp)))
  clear L1 L2 hb1
  go_enter Try.func11, Try.ntmps11
  go_wp2_with fail
  have CA' := CA.out
  simp only [World.size_alloc] at CA'
  refine CA'.mono ?_
  rintro e w1 ⟨A1, m1, c1, rfl, ho1, hb1⟩
  clear CA CA'
  rw [base_two] at ho1
  obtain rfl : m1 = 2 := ho1.len.symm
  have HO1 := Lib.hid (ho1.weaken (base' := w.heap.size) (by omega))
  have HB2 := Lib.hid (HB1.out.trans (hb1.mono (by omega)))
  clear ho1 hb1 HB1 hb0
  have L3 := limbs_new w1 1 (by omega) 1 rfl
  have hb3 := (Below.refl w1.heap.size w1).alloc (Nat.le_refl _) (.cells #[.int .u32 1] 37)
  have CS := Lib.hid (sub_geq A1 _ 2 c1 1 1 [0, 1] [1] _ (HO1.out.limbs.below hb3) L3 base_lt2 base_lt1 (by simp only [val]; omega) (by omega))
  have HB3 := Lib.hid hb3
  clear L3 hb3
  go_wp2_with fail
  refine CS.out.mono ?_
  rintro e w2 ⟨A2, m2, c2, rfl, ho2, hb2⟩
  clear CS
  rw [base_one] at ho2
  obtain rfl : m2 = 1 := ho2.len.symm
  have HB4 := Lib.hid (HB3.out.trans (hb2.mono (by simp)))
  have HS := Lib.hid (HO1.out.limbs.below HB4.out)
  have HD := Lib.hid ho2.limbs
  have HBW := Lib.hid (HB2.out.trans (HB4.out.mono HB2.out.size))
  clear ho2 hb2
  obtain ⟨ad, rfl, hd1, hc0, _⟩ := HS.out.at_ (k := 0) (by omega)
  obtain ⟨ad', e1, _, hc1, _⟩ := HS.out.at_ (k := 1) (by omega)
  obtain rfl : ad = ad' := by simpa using e1
  obtain ⟨ad2, rfl, hd2, hc2, _⟩ := HD.out.at_ (k := 0) (by omega)
  clear e1
  have hc0' : w2.cell? ad = some (.int .u32 0) := hc0
  have hc1' : w2.cell? ⟨ad.block, ad.off + 1, none⟩ = some (.int .u32 1) := hc1
  have hc2' : w2.cell? ad2 = some (.int .u32 999999999) := hc2
  clear hc0 hc1 hc2
  have CC := cmp_c _ _ 2 c1 1 c2 _ _ w2 HS.out HD.out base_lt2 base_lt
  rw [cmpI_of_gt (by simp only [val]; omega)] at CC
  have HCC := Lib.hid CC
  clear CC
  go_wp2_with fail
  refine HCC.out.mono ?_
  rintro e w3 ⟨rfl, hb3⟩
  have HB5 := Lib.hid (HBW.out.trans (hb3.mono HBW.out.size))
  clear hb3
  go_wp2
  go_ret
  exact ⟨rfl, HB5.out⟩
end Go.Proofs.Ytimpjodbfflakaa
