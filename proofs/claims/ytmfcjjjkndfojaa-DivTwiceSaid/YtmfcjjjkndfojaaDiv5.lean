import Derived.Test.YtmfcjjjkndfojaaDiv4
import Derived.Test.YtmfcjjjkndfojaaAns1
namespace Go.Proofs.Ytmfcjjjkndfojaa
open Go.RowKit
theorem all_good {xs : List Nat} (h : ∀ x ∈ xs, x < 1000000000) : (xs.all fun x => decide (x ≤ 999999999)) = true := by
  rw [List.all_eq_true]
  intro x hx
  have := h x hx
  simp
  omega
theorem ownS_nil (w : World) (base : Nat) : OwnS w base none 0 0 [] := ⟨World.ownsRow_nil _ _ _ _, by omega, by simp⟩
set_option maxHeartbeats 2000000 in
set_option maxRecDepth 100000 in
theorem divMod_zero (A A' : Option Addr) (n c n' c' : Nat) (xs ys : List Nat) (w : World) (h : Limbs w A n xs) (h' : Limbs w A' n' ys) (gy : ∀ y ∈ ys, y < 1000000000)
    (hn : n ≤ 100000000) (hn' : n' ≤ 100000000) (hy : val 1000000000 ys = 0) :
    Calls Try.prog 10 #[.slice A n c, .slice A' n' c'] w fun e w' => e = .returned (.tuple #[.slice none 0 0, .slice none 0 0, .bool false]) ∧ Below w.heap.size w w' := by
  have H := Lib.hid h
  have H' := Lib.hid h'
  have GY := Lib.hid gy
  have HY := Lib.hid hy
  clear h h' gy hy
  go_enter Try.func10, Try.ntmps10
  go_wp2_with fail
  refine (trim_c A n c xs w H.out (by omega)).mono ?_
  rintro e w1 ⟨A1, m1, c1, rfl, ho, hb⟩
  have B := Lib.hid hb
  clear ho hb
  go_wp2_with fail
  refine (trim_c A' n' c' ys w1 (H'.out.below B.out) (by omega)).mono ?_
  rintro e w2 ⟨A2, m2, c2, rfl, ho, hb⟩
  rw [trim_eq_digs 1000000000 (by omega) _ GY.out, HY.out, digs_zero] at ho
  obtain rfl : m2 = 0 := ho.len.symm
  replace B := Lib.hid (B.out.trans (hb.mono B.out.size))
  clear ho hb
  go_wp2
  go_ret3
  exact ⟨rfl, B.out⟩
set_option maxHeartbeats 2000000 in
set_option maxRecDepth 100000 in
theorem divMod_c (A A' : Option Addr) (n c n' c' : Nat) (xs ys : List Nat) (w : World) (h : Limbs w A n xs) (h' : Limbs w A' n' ys) (gx : ∀ x ∈ xs, x < 1000000000) (gy : ∀ y ∈ ys, y < 1000000000)
    (hn : n ≤ 100000000) (hn' : n' ≤ 100000000) (hy : 0 < val 1000000000 ys) :
    Calls Try.prog 10 #[.slice A n c, .slice A' n' c'] w fun e w' => ∃ A1 m1 c1 A2 m2 c2, e = .returned (.tuple #[.slice A1 m1 c1, .slice A2 m2 c2, .bool true]) ∧
      OwnS w' w.heap.size A1 m1 c1 (digs 1000000000 (val 1000000000 xs / val 1000000000 ys)) ∧ OwnS w' w.heap.size A2 m2 c2 (digs 1000000000 (val 1000000000 xs % val 1000000000 ys)) ∧ Below w.heap.size w w' := by
  have H := Lib.hid h
  have H' := Lib.hid h'
  have GX := Lib.hid gx
  have GY := Lib.hid gy
  have HY := Lib.hid hy
  have hlx := h.len
  have hly := h'.len
  clear h h' gx gy hy
  go_enter Try.func10, Try.ntmps10
  go_wp2_with fail
  refine (trim_c A n c xs w H.out (by omega)).mono ?_
  rintro e w1 ⟨A1, m1, c1, rfl, ho, hb⟩
  have hm1 : m1 ≤ 100000000 := by rw [← ho.len, trim_length]; have := tz_le xs; omega
  rw [trim_eq_digs 1000000000 (by omega) _ GX.out] at ho
  have O1 := Lib.hid ho
  have B := Lib.hid hb
  clear ho hb
  go_wp2_with fail
  refine (trim_c A' n' c' ys w1 (H'.out.below B.out) (by omega)).mono ?_
  rintro e w2 ⟨A2, m2, c2, rfl, ho, hb⟩
  have hm2 : m2 ≤ 100000000 := by rw [← ho.len, trim_length]; have := tz_le ys; omega
  rw [trim_eq_digs 1000000000 (by omega) _ GY.out] at ho
  have O2 := Lib.hid ho
  replace O1 := Lib.hid (O1.out.keep hb rfl)
  have hw1 := B.out.size
  replace B := Lib.hid (B.out.trans (hb.mono hw1))
  clear ho hb hlx hly
  generalize hX : val 1000000000 xs = X at *
  generalize hYY : val 1000000000 ys = Y at *
  have HXX := Lib.hid hX
  have HYY := Lib.hid hYY
  clear hX hYY
  have hm20 : 0 < m2 := by
    rcases Nat.eq_zero_or_pos m2 with h0 | h0
    · have := (digs_length_zero 1000000000 (by omega) Y).1 (by rw [O2.out.len, h0])
      have := HY.out
      omega
    · exact h0
  have GDX := Lib.hid (digs_lt 1000000000 (by omega) X)
  have GDY := Lib.hid (digs_lt 1000000000 (by omega) Y)
  have hm2b : ((m2 : Int) == 0) = false := by simp; omega
  have CG1 := natGood_c A1 m1 c1 _ w2 O1.out.limbs
  have CG2 := natGood_c A2 m2 c2 _ w2 O2.out.limbs
  rw [all_good GDX.out] at CG1
  rw [all_good GDY.out] at CG2
  have HG1 := Lib.hid CG1
  have HG2 := Lib.hid CG2
  clear CG1 CG2
  go_wp2_with fail
  refine HG1.out.mono ?_
  rintro e w' ⟨rfl, rfl⟩
  go_wp2_with fail
  refine HG2.out.mono ?_
  rintro e w' ⟨rfl, rfl⟩
  clear HG1 HG2
  have CC := cmp_c A1 A2 m1 c1 m2 c2 _ _ w2 O1.out.limbs O2.out.limbs GDX.out GDY.out
  rw [val_digs 1000000000 (by omega), val_digs 1000000000 (by omega)] at CC
  have hw2 : w.heap.size ≤ w2.heap.size := B.out.size
  by_cases hlt : X < Y
  · rw [cmpI_of_lt hlt] at CC
    have HCC := Lib.hid CC
    have HLT := Lib.hid hlt
    clear CC hlt
    go_wp2_with fail
    refine HCC.out.mono ?_
    rintro e w3 ⟨rfl, hb⟩
    have O3 := Lib.hid (O1.out.keep hb rfl)
    have B3 := Lib.hid (B.out.trans (hb.mono hw2))
    clear hb HCC
    go_wp2
    go_ret3
    refine ⟨none, 0, 0, A1, m1, c1, rfl, ?_, ?_, B3.out⟩
    · rw [HXX.out, HYY.out, Nat.div_eq_of_lt HLT.out, digs_zero]; exact ownS_nil _ _
    · rw [HXX.out, HYY.out, Nat.mod_eq_of_lt HLT.out]; exact O3.out
  · obtain ⟨r, hr0, hr⟩ : ∃ r : Int, 0 ≤ r ∧ cmpI X Y = r := by
      refine ⟨_, ?_, rfl⟩
      rw [cmpI, if_neg hlt]
      split <;> omega
    rw [hr] at CC
    have HCC := Lib.hid CC
    have HGE := Lib.hid (show Y ≤ X by omega)
    clear CC hlt hr
    by_cases h1 : m2 = 1
    · subst h1
      obtain ⟨y, hy⟩ : ∃ y, digs 1000000000 Y = [y] := List.length_eq_one_iff.1 O2.out.len
      have hyY : y = Y := by have := val_digs 1000000000 (by omega) Y; rw [hy] at this; simpa [val] using this
      have hyb : y < 1000000000 := GDY.out y (by rw [hy]; simp)
      have O2' := Lib.hid (hy ▸ O2.out)
      subst hyY
      have HYP := HY.out
      clear hy
      go_wp2_with fail
      refine HCC.out.mono ?_
      rintro e w3 ⟨rfl, hb⟩
      have O3 := Lib.hid (O1.out.keep hb rfl)
      have B3 := Lib.hid (B.out.trans (hb.mono hw2))
      have hw3 := hb.size
      have L3 := Lib.hid (O2'.out.keep hb rfl).limbs
      obtain ⟨ad, rfl, had, hc0, _⟩ := L3.out.at_ (k := 0) (by omega)
      have hc : w3.cell? ad = some (.int .u32 (y : Int)) := hc0
      clear hb HCC hc0
      have CS := divSmall_c A1 m1 c1 _ y w3 O3.out.limbs GDX.out (by omega) HYP hyb
      rw [val_digs 1000000000 (by omega)] at CS
      have HCS := Lib.hid CS
      have HMB := Lib.hid (Nat.mod_lt X HYP)
      clear CS
      go_wp2_with fail
      refine HCS.out.mono ?_
      rintro e w4 ⟨A4, m4, c4, rfl, ho, hb⟩
      have hw4 := hb.size
      have O4 := Lib.hid ho
      have B4 := Lib.hid (B3.out.trans (hb.mono (by omega)))
      clear ho hb HCS
      have L4 := Lib.hid (limbs_new w4 (X % y) (by have := HMB.out; omega) _ rfl)
      have hb4 := Lib.hid ((Below.refl w4.heap.size w4).alloc (Nat.le_refl _) (.cells #[.int .u32 ((X % y : Nat) : Int)] 32))
      have CT := trim_c _ 1 1 [X % y] _ L4.out (by omega)
      have gt : ∀ z ∈ [X % y], z < 1000000000 := by intro z hz; have := HMB.out; simp at hz; omega
      rw [trim_eq_digs 1000000000 (by omega) _ gt, show val 1000000000 [X % y] = X % y by simp [val], World.size_alloc] at CT
      have HCT := Lib.hid CT
      clear CT gt
      generalize hRR : X % y = R at *
      have HRR := Lib.hid hRR
      clear hRR
      go_wp2_with fail
      refine HCT.out.mono ?_
      rintro e w5 ⟨A5, m5, c5, rfl, ho, hb⟩
      have hb5 := Lib.hid (hb4.out.trans (hb.mono (by omega)))
      have O5 := Lib.hid (ho.weaken (by omega : w.heap.size ≤ w4.heap.size + 1))
      have O6 := Lib.hid ((O4.out.keep hb5.out rfl).weaken (by omega : w.heap.size ≤ w3.heap.size))
      have B5 := Lib.hid (B4.out.trans (hb5.out.mono (by omega)))
      clear ho hb HCT
      go_wp2
      go_ret3
      exact ⟨A4, m4, c4, A5, m5, c5, rfl, by rw [HXX.out, HYY.out]; exact O6.out, by rw [HXX.out, HYY.out, HRR.out]; exact O5.out, B5.out⟩
    · have h1b : ((m2 : Int) == 1) = false := by simp; omega
      have HLL := Lib.hid (show (digs 1000000000 Y).getD (m2 - 1) 0 ≠ 0 by
        have := tz_last (digs 1000000000 Y) (by rw [tz_digs 1000000000 (by omega), O2.out.len]; omega)
        rwa [tz_digs 1000000000 (by omega), O2.out.len] at this)
      go_wp2_with fail
      refine HCC.out.mono ?_
      rintro e w3 ⟨rfl, hb⟩
      have O3 := Lib.hid (O1.out.keep hb rfl)
      have P3 := Lib.hid (O2.out.keep hb rfl)
      have hw3 := hb.size
      have B3 := Lib.hid (B.out.trans (hb.mono hw2))
      clear hb HCC
      have CS := long_c A1 A2 m1 c1 m2 c2 _ _ w3 O3.out.limbs P3.out.limbs GDX.out GDY.out (by omega) (by omega) (by omega) HLL.out (by rw [val_digs 1000000000 (by omega), val_digs 1000000000 (by omega)]; exact HGE.out)
      rw [val_digs 1000000000 (by omega), val_digs 1000000000 (by omega)] at CS
      have HCS := Lib.hid CS
      clear CS
      go_wp2_with fail
      refine HCS.out.mono ?_
      rintro e w4 ⟨A4, m4, c4, A5, m5, c5, rfl, ho, ho', hb⟩
      have O4 := Lib.hid (ho.weaken (by omega : w.heap.size ≤ w3.heap.size))
      have O5 := Lib.hid (ho'.weaken (by omega : w.heap.size ≤ w3.heap.size))
      have B4 := Lib.hid (B3.out.trans (hb.mono (by omega)))
      clear ho ho' hb HCS
      go_wp2
      go_ret3
      exact ⟨A4, m4, c4, A5, m5, c5, rfl, by rw [HXX.out, HYY.out]; exact O4.out, by rw [HXX.out, HYY.out]; exact O5.out, B4.out⟩
end Go.Proofs.Ytmfcjjjkndfojaa
