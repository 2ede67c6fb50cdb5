import Derived.Test.YthddeiadcecggaaMul2
import Derived.Test.YthddeiadcecggaaAns1
namespace Go.Proofs.Ythddeiadcecggaa
open Go.RowKit
theorem ans02_p : digs 1000000000 (val 1000000000 [999999999] * val 1000000000 [999999999]) = [1, 999999998] := by
  have h := trim_eq_digs 1000000000 (by omega) [1, 999999998] (by intro x hx; simp at hx; omega)
  have e : val 1000000000 [1, 999999998] = val 1000000000 [999999999] * val 1000000000 [999999999] := by simp only [val]
  rw [e] at h
  rw [← h]; rfl
theorem ans02_s : digs 1000000000 (val 1000000000 [5] * 3 + 4) = [19] := by
  have h := trim_eq_digs 1000000000 (by omega) [19] (by intro x hx; simp at hx; omega)
  have e : val 1000000000 [19] = val 1000000000 [5] * 3 + 4 := by simp only [val]
  rw [e] at h
  rw [← h]; rfl
theorem base_lt5 : ∀ x ∈ [5], x < 1000000000 := by intro x hx; simp at hx; omega
set_option maxHeartbeats 800000 in
set_option maxRecDepth 100000 in
theorem answers02_c (w : World) :
    Calls Try.prog 9 #[] w fun e w' => e = .returned (.bool true) ∧ Below w.heap.size w w' := by
  have B := Lib.hid ((Below.refl w.heap.size w).alloc (Nat.le_refl _) (.cells #[.int .u32 999999999] 30))
  have L1 := limbs_new w 999999999 (by omega) 999999999 rfl
  have L2 := limbs_new (w.alloc (.cells #[.int .u32 999999999] 30)) 999999999 (by omega) 999999999 rfl
  have hb1 := (Below.refl (w.alloc (.cells #[.int .u32 999999999] 30)).heap.size (w.alloc (.cells #[.int .u32 999999999] 30))).alloc (Nat.le_refl _) (.cells #[.int .u32 999999999] 30)
  have CA := Lib.hid (mul_c _ _ 1 1 1 1 _ _ _ (L1.below hb1) L2 base_lt base_lt (by omega) (by omega))
  have HB1 := Lib.hid (B.out.trans (hb1.mono (by simp)))
  clear L1 L2 hb1 B
  go_enter Try.func9, Try.ntmps9
  go_wp2_with fail
  have CA' := CA.out
  simp only [World.size_alloc] at CA'
  refine CA'.mono ?_
  rintro e w1 ⟨A1, m1, c1, rfl, ho1, hb1⟩
  clear CA CA'
  rw [ans02_p] at ho1
  obtain rfl : m1 = 2 := ho1.len.symm
  have HO1 := Lib.hid ho1.limbs
  have HB2 := Lib.hid (HB1.out.trans (hb1.mono (by omega)))
  clear ho1 hb1 HB1
  have L3 := limbs_new w1 5 (by omega) 5 rfl
  have hb3 := (Below.refl w1.heap.size w1).alloc (Nat.le_refl _) (.cells #[.int .u32 5] 30)
  have CS := Lib.hid (small_c _ 1 1 [5] 3 4 _ L3 base_lt5 (by omega) (by omega) (by omega))
  have HB3 := Lib.hid hb3
  clear L3 hb3
  go_wp2_with fail
  refine CS.out.mono ?_
  rintro e w2 ⟨A2, m2, c2, rfl, ho2, hb2⟩
  clear CS
  rw [ans02_s] at ho2
  obtain rfl : m2 = 1 := ho2.len.symm
  have HB4 := Lib.hid (HB3.out.trans (hb2.mono (by simp)))
  have HS := Lib.hid (HO1.out.below HB4.out)
  have HD := Lib.hid ho2.limbs
  have HBW := Lib.hid (HB2.out.trans (HB4.out.mono HB2.out.size))
  clear ho2 hb2
  obtain ⟨ad, rfl, hd1, hc0, _⟩ := HS.out.at_ (k := 0) (by omega)
  obtain ⟨ad', e1, _, hc1, _⟩ := HS.out.at_ (k := 1) (by omega)
  obtain rfl : ad = ad' := by simpa using e1
  obtain ⟨ad2, rfl, hd2, hc2, _⟩ := HD.out.at_ (k := 0) (by omega)
  clear e1
  have hc0' : w2.cell? ad = some (.int .u32 1) := hc0
  have hc1' : w2.cell? ⟨ad.block, ad.off + 1, none⟩ = some (.int .u32 999999998) := hc1
  have hc2' : w2.cell? ad2 = some (.int .u32 19) := hc2
  clear hc0 hc1 hc2
  go_wp2
  go_ret
  exact ⟨rfl, HBW.out⟩
end Go.Proofs.Ythddeiadcecggaa
