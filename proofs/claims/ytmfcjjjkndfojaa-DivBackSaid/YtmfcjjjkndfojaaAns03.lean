import Derived.Test.YtmfcjjjkndfojaaDiv5
import Derived.Test.YtmfcjjjkndfojaaArgs
namespace Go.Proofs.Ytmfcjjjkndfojaa
open Go.RowKit
theorem digs_one {x : Nat} (h0 : x ≠ 0) (h : x < 1000000000) : digs 1000000000 x = [x] := by
  rw [digs_pos (by omega) h0, Nat.mod_eq_of_lt h, Nat.div_eq_of_lt h, digs_zero]
theorem one_lt9 {x : Nat} (h : x < 1000000000) : ∀ z ∈ [x], z < 1000000000 := by intro z hz; simp at hz; omega
set_option maxHeartbeats 2000000 in
set_option maxRecDepth 100000 in
theorem answers03_c (w : World) :
    Calls Try.prog 9 #[] w fun e w' => e = .returned (.bool true) ∧ Below w.heap.size w w' := by
  have L1 := limbs_new w 7 (by omega) 7 rfl
  have L2 := limbs_new (w.alloc (.cells #[.int .u32 7] 32)) 2 (by omega) 2 rfl
  have hb1 := (Below.refl (w.alloc (.cells #[.int .u32 7] 32)).heap.size (w.alloc (.cells #[.int .u32 7] 32))).alloc (Nat.le_refl _) (.cells #[.int .u32 2] 32)
  have B0 := ((Below.refl w.heap.size w).alloc (Nat.le_refl _) (.cells #[.int .u32 7] 32)).alloc (by simp) (.cells #[.int .u32 2] 32)
  have CA := divMod_c _ _ 1 1 1 1 [7] [2] _ (L1.below hb1) L2 (one_lt9 (by omega)) (one_lt9 (by omega)) (by omega) (by omega) (by simp [val])
  rw [show val 1000000000 [7] / val 1000000000 [2] = 3 by simp [val], show val 1000000000 [7] % val 1000000000 [2] = 1 by simp [val], digs_one (by omega) (by omega), digs_one (by omega) (by omega)] at CA
  simp only [World.size_alloc] at CA
  have HCA := Lib.hid CA
  have B := Lib.hid B0
  clear L1 L2 hb1 B0 CA
  go_enter Try.func9, Try.ntmps9
  go_wp2_with fail
  refine HCA.out.mono ?_
  rintro e w1 ⟨A1, m1, c1, A2, m2, c2, rfl, ho1, ho2, hb⟩
  obtain rfl : m1 = 1 := ho1.len.symm
  obtain rfl : m2 = 1 := ho2.len.symm
  have O1 := Lib.hid ho1.limbs
  have O2 := Lib.hid ho2.limbs
  replace B := Lib.hid (B.out.trans (hb.mono (by omega)))
  clear ho1 ho2 hb HCA
  have L3 := limbs_new w1 7 (by omega) 7 rfl
  have hb3 := (Below.refl w1.heap.size w1).alloc (Nat.le_refl _) (.cells #[.int .u32 7] 32)
  have CS := divSmall_c _ 1 1 [7] 2 _ L3 (one_lt9 (by omega)) (by omega) (by omega) (by omega)
  rw [show val 1000000000 [7] / 2 = 3 by simp [val], show val 1000000000 [7] % 2 = 1 by simp [val], digs_one (by omega) (by omega)] at CS
  have HCS := Lib.hid CS
  replace O1 := Lib.hid (O1.out.below hb3)
  replace O2 := Lib.hid (O2.out.below hb3)
  replace B := Lib.hid (B.out.trans (hb3.mono B.out.size))
  clear L3 hb3 CS
  go_wp2_with fail
  refine HCS.out.mono ?_
  rintro e w2 ⟨A3, m3, c3, rfl, ho, hb⟩
  obtain rfl : m3 = 1 := ho.len.symm
  have O3 := Lib.hid ho.limbs
  replace O1 := Lib.hid (O1.out.below hb)
  replace O2 := Lib.hid (O2.out.below hb)
  replace B := Lib.hid (B.out.trans (hb.mono B.out.size))
  clear ho hb HCS
  have L4 := limbs_new w2 7 (by omega) 7 rfl
  have hb4 := (Below.refl w2.heap.size w2).alloc (Nat.le_refl _) (.cells #[.int .u32 7] 32)
  have HCZ := Lib.hid (divMod_zero _ none 1 1 0 0 [7] [] _ L4 (limbs_none _) (by simp) (by omega) (by omega) rfl)
  replace O1 := Lib.hid (O1.out.below hb4)
  replace O2 := Lib.hid (O2.out.below hb4)
  replace O3 := Lib.hid (O3.out.below hb4)
  replace B := Lib.hid (B.out.trans (hb4.mono B.out.size))
  clear L4 hb4
  go_wp2_with fail
  refine HCZ.out.mono ?_
  rintro e w3 ⟨rfl, hb⟩
  replace O1 := Lib.hid (O1.out.below hb)
  replace O2 := Lib.hid (O2.out.below hb)
  replace O3 := Lib.hid (O3.out.below hb)
  replace B := Lib.hid (B.out.trans (hb.mono B.out.size))
  clear hb HCZ
  obtain ⟨ad1, rfl, _, hc1, _⟩ := O1.out.at_ (k := 0) (by omega)
  obtain ⟨ad2, rfl, _, hc2, _⟩ := O2.out.at_ (k := 0) (by omega)
  obtain ⟨ad3, rfl, _, hc3, _⟩ := O3.out.at_ (k := 0) (by omega)
  have hc1' : w3.cell? ad1 = some (.int .u32 3) := hc1
  have hc2' : w3.cell? ad2 = some (.int .u32 1) := hc2
  have hc3' : w3.cell? ad3 = some (.int .u32 3) := hc3
  clear hc1 hc2 hc3
  go_wp2
  go_ret
  exact ⟨rfl, B.out⟩
end Go.Proofs.Ytmfcjjjkndfojaa
