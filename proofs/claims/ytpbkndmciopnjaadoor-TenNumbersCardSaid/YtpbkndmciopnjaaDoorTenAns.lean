import Derived.Test.YtpbkndmciopnjaaDoorTen9
import Derived.Test.YtpbkndmciopnjaaDoorArgs
namespace Go.Proofs.YtpbkndmciopnjaaDoor
open Go.RowKit
set_option maxHeartbeats 400000 in
set_option maxRecDepth 100000 in
theorem good04_c (A : Option Addr) (n c : Nat) (xs : List Nat) (w : World) (h : Limbs w A n xs) :
    Calls Tryd.prog 8 #[.slice A n c] w fun e w' => e = .returned (.bool ((Arg.mk A n c xs).fineL 40)) ∧ w = w' := by
  have CG := refGood_c A n c xs w h
  by_cases hb : n ≤ 40
  · have e1 : (Arg.mk A n c xs).fineL 40 = xs.all (fun x => decide (x ≤ 999999999)) := by simp [Arg.fineL, hb]
    rw [e1]
    have HCG := Lib.hid CG
    have hbI : (n : Int) ≤ 40 := by omega
    clear CG h e1
    generalize xs.all (fun x => decide (x ≤ 999999999)) = B at *
    go_enter Tryd.func8, Tryd.ntmps8
    go_wp2_with fail
    refine HCG.out.mono ?_
    rintro e w' ⟨rfl, rfl⟩
    go_wp2
    go_ret
    exact ⟨rfl, rfl⟩
  · have e1 : (Arg.mk A n c xs).fineL 40 = false := by simp [Arg.fineL, hb]
    rw [e1]
    have hbI : ¬ (n : Int) ≤ 40 := by omega
    clear CG h e1
    go_enter Tryd.func8, Tryd.ntmps8
    go_wp2
    go_ret
    exact ⟨rfl, rfl⟩
theorem orZero_pos (ds : List Nat) : 0 < (orZero ds).length := by
  cases ds <;> simp [orZero]
theorem orZero_len {n k : Nat} (h : n < 10 ^ k) : (orZero (decs n)).length ≤ k + 1 := by
  have h1 := decs_len h
  cases hd : decs n with
  | nil => simp [orZero]
  | cons d r => rw [hd] at h1; simp [orZero] at h1 ⊢; omega
theorem dval_orZero (ds : List Nat) : dval (orZero ds) = dval ds := by
  cases ds <;> rfl
theorem dval_orZero_decs (n : Nat) : dval (orZero (decs n)) = n := by rw [dval_orZero, dval_decs]
theorem tenLen_s (s : ByteArray) (A : Option Addr) (n c : Nat) (xs : List Nat) (w : World) (h : Limbs w A n xs) (gx : ∀ x ∈ xs, x < 1000000000) (hn : n ≤ 100000000) (hP : Pw w) (hs : IsD s (decs (val 1000000000 xs))) :
    Calls Tryd.prog 14 #[.slice A n c] w fun e w' => e = .returned (.int .i64 (s.size : Int)) ∧ Below w.heap.size w w' :=
  (tenLen_c A n c xs w h gx hn hP).mono fun _ _ ⟨he, hb⟩ => ⟨by rw [he, hs.size], hb⟩
theorem dval_zeros (k : Nat) : dval (List.replicate k 0) = 0 := by rw [dval, List.reverse_replicate]; exact val_replicate 10 k
theorem digs_one' {x : Nat} (h0 : x ≠ 0) (h : x < 1000000000) : digs 1000000000 x = [x] := by
  rw [digs_pos (by omega) h0, Nat.mod_eq_of_lt h, Nat.div_eq_of_lt h, digs_zero]
theorem ans04_digs : digs 1000000000 (dval [0, 0, 1, 2, 0, 0, 0, 0, 0, 0, 0, 3, 4]) = [34, 12] := by
  rw [show dval [0, 0, 1, 2, 0, 0, 0, 0, 0, 0, 0, 3, 4] = 12000000034 from rfl, digs_pos (by omega) (by omega), digs_one' (by omega) (by omega)]
theorem ans04_val : val 1000000000 [34, 12] = 12000000034 := rfl
theorem ans04_decs : decs 12000000034 = [1, 2, 0, 0, 0, 0, 0, 0, 0, 3, 4] := by
  have h := stripZ_eq [1, 2, 0, 0, 0, 0, 0, 0, 0, 3, 4] (by decide)
  rw [show dval [1, 2, 0, 0, 0, 0, 0, 0, 0, 3, 4] = 12000000034 from rfl] at h
  rw [← h]; rfl
theorem isD_in : IsD ⟨#[48, 48, 49, 50, 48, 48, 48, 48, 48, 48, 48, 51, 52]⟩ [0, 0, 1, 2, 0, 0, 0, 0, 0, 0, 0, 3, 4] := ⟨rfl, by decide⟩
theorem isD_out : IsD ⟨#[49, 50, 48, 48, 48, 48, 48, 48, 48, 51, 52]⟩ [1, 2, 0, 0, 0, 0, 0, 0, 0, 3, 4] := ⟨rfl, by decide⟩
theorem tenNumber_empty (w : World) (hP : Pw w) :
    Calls Tryd.prog 11 #[.string ⟨#[]⟩] w fun e w' => e = .returned (.tuple #[.slice none 0 0, .bool false]) ∧ Below w.heap.size w w' := by
  refine (tenNumber_c ⟨#[]⟩ w (by decide) hP).mono ?_
  rintro e w' ⟨hb, ⟨h, _⟩ | ⟨_, rfl⟩⟩
  · exact absurd h (by decide)
  · exact ⟨rfl, hb⟩
set_option maxHeartbeats 4000000 in
set_option maxRecDepth 100000 in
theorem answers04_c (w : World) (hP : Pw w) :
    Calls Tryd.prog 9 #[] w fun e w' => e = .returned (.bool true) ∧ Below w.heap.size w w' := by
  have P := Lib.hid hP
  clear hP
  have B := Lib.hid (Below.refl w.heap.size w)
  have C1 := tenNumber_ok _ _ w isD_in (by decide) (by decide) P.out
  rw [ans04_digs] at C1
  have HC1 := Lib.hid C1
  clear C1
  go_enter Tryd.func9, Tryd.ntmps9
  go_wp2_with fail
  refine HC1.out.mono ?_
  rintro e w1 ⟨A1, m1, c1, rfl, ho1, hb⟩
  obtain rfl : m1 = 2 := ho1.len.symm
  have O1 := Lib.hid ho1.limbs
  replace P := Lib.hid (P.out.below hb)
  replace B := Lib.hid (B.out.trans hb)
  clear ho1 hb HC1
  go_wp2_with fail
  refine (tenNumber_empty w1 P.out).mono ?_
  rintro e w2 ⟨rfl, hb⟩
  replace O1 := Lib.hid (O1.out.below hb)
  replace P := Lib.hid (P.out.below hb)
  replace B := Lib.hid (B.out.trans (hb.mono B.out.size))
  clear hb
  have L3 := limbs_new w2 1234 (by omega) 1234 rfl
  have hb3 := (Below.refl w2.heap.size w2).alloc (Nat.le_refl _) (.cells #[.int .u32 1234] 39)
  have CC := tenCut_c _ 1 1 [1234] 2 2 _ L3 (by intro x hx; simp at hx; omega) (by omega) (by omega) (by decide) (by omega) (P.out.below hb3)
  rw [show val 1000000000 [1234] / 10 ^ 2 = 12 from rfl, show val 1000000000 [1234] % 10 ^ 2 = 34 from rfl, digs_one' (by omega) (by omega), digs_one' (by omega) (by omega)] at CC
  have HCC := Lib.hid CC
  replace O1 := Lib.hid (O1.out.below hb3)
  replace P := Lib.hid (P.out.below hb3)
  replace B := Lib.hid (B.out.trans (hb3.mono B.out.size))
  clear L3 hb3 CC
  go_wp2_with fail
  refine HCC.out.mono ?_
  rintro e w3 ⟨A2, m2, c2, A3, m3, c3, rfl, ho2, ho3, hb⟩
  obtain rfl : m2 = 1 := ho2.len.symm
  obtain rfl : m3 = 1 := ho3.len.symm
  have O2 := Lib.hid ho2.limbs
  have O3 := Lib.hid ho3.limbs
  replace O1 := Lib.hid (O1.out.below hb)
  replace P := Lib.hid (P.out.below hb)
  replace B := Lib.hid (B.out.trans (hb.mono B.out.size))
  clear ho2 ho3 hb HCC
  have hg2 : ∀ x ∈ [34, 12], x < 1000000000 := by intro x hx; simp at hx; omega
  have CD := tenDigits_c A1 2 c1 [34, 12] w3 O1.out hg2 (by omega) P.out
  rw [ans04_val, ans04_decs] at CD
  have HCD := Lib.hid CD
  obtain ⟨ad1, hA1, _, hc1, _⟩ := O1.out.at_ (k := 0) (by omega)
  subst hA1
  obtain ⟨ad1', e1, _, hc1b, _⟩ := O1.out.at_ (k := 1) (by omega)
  obtain rfl : ad1 = ad1' := by simpa using e1
  have hc1' : w3.cell? ad1 = some (.int .u32 34) := hc1
  have hc1b' : w3.cell? ⟨ad1.block, ad1.off + 1, none⟩ = some (.int .u32 12) := hc1b
  clear CD e1 hc1 hc1b
  go_wp2_with fail
  refine HCD.out.mono ?_
  rintro e w4 ⟨s4, rfl, hs4, hb⟩
  obtain rfl := IsD.ext hs4 isD_out
  replace O1 := Lib.hid (O1.out.below hb)
  replace O2 := Lib.hid (O2.out.below hb)
  replace O3 := Lib.hid (O3.out.below hb)
  replace P := Lib.hid (P.out.below hb)
  replace B := Lib.hid (B.out.trans (hb.mono B.out.size))
  clear hs4 hb HCD hc1' hc1b'
  have CL := tenLen_c (some ad1) 2 c1 [34, 12] w4 O1.out hg2 (by omega) P.out
  rw [ans04_val, ans04_decs] at CL
  have HCL := Lib.hid (show Calls Tryd.prog 14 #[.slice (some ad1) 2 c1] w4 fun e w' => e = .returned (.int .i64 11) ∧ Below w4.heap.size w4 w' from CL)
  clear CL
  go_wp2_with fail
  refine HCL.out.mono ?_
  rintro e w5 ⟨rfl, hb⟩
  replace O2 := Lib.hid (O2.out.below hb)
  replace O3 := Lib.hid (O3.out.below hb)
  replace B := Lib.hid (B.out.trans (hb.mono B.out.size))
  obtain ⟨ad2, rfl, _, hc2, _⟩ := O2.out.at_ (k := 0) (by omega)
  obtain ⟨ad3, rfl, _, hc3, _⟩ := O3.out.at_ (k := 0) (by omega)
  have hc2' : w5.cell? ad2 = some (.int .u32 12) := hc2
  have hc3' : w5.cell? ad3 = some (.int .u32 34) := hc3
  clear hb HCL hc2 hc3
  go_wp2
  go_ret
  exact ⟨rfl, B.out⟩
end Go.Proofs.YtpbkndmciopnjaaDoor
