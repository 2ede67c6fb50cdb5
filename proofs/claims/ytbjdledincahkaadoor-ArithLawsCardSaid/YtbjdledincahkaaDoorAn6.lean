/-
  An6: layer 6's answers; decimals of its laws by value.
-/
import Derived.Test.YtbjdledincahkaaDoorGd6
namespace Go.Proofs.YtbjdledincahkaaDoor
open Go.RowKit
theorem zx75 : zneg 75 = false ∧ zstr 75 = ⟨#[55, 53]⟩ ∧ zexp 75 (-2) = -2 := by
  refine ⟨rfl, ?_, ?_⟩
  · rw [zstr, nstr, nq_none (by decide)]
    rw [show ((75 : Int).natAbs) = 75 by rfl, decs_snoc (by omega), decs_snoc (show 75 / 10 ≠ 0 by omega), decs_zero]; rfl
  · rw [zexp, nexp, if_neg (by decide), tz10_none (by decide)]; rfl
theorem zx625 : zneg 625 = false ∧ zstr 625 = ⟨#[54, 50, 53]⟩ ∧ zexp 625 (-4) = -4 := by
  refine ⟨rfl, ?_, ?_⟩
  · rw [zstr, nstr, nq_none (by decide)]
    rw [show ((625 : Int).natAbs) = 625 by rfl, decs_snoc (by omega), decs_snoc (show 625 / 10 ≠ 0 by omega), decs_snoc (show 625 / 10 / 10 ≠ 0 by omega), decs_zero]; rfl
  · rw [zexp, nexp, if_neg (by decide), tz10_none (by decide)]; rfl
theorem zx25 : nstr 25 = ⟨#[50, 53]⟩ ∧ nexp 25 (-2 + 2) = 0 := by
  refine ⟨?_, ?_⟩
  · rw [nstr, nq_none (by decide), decs_snoc (by omega), decs_snoc (show 25 / 10 ≠ 0 by omega), decs_zero]; rfl
  · rw [nexp, if_neg (by decide), tz10_none (by decide)]; rfl
theorem da25 : DA 1000 ⟨#[50, 53]⟩ (-2) 25 := ⟨⟨[2, 5], ⟨rfl, by decide⟩, rfl⟩, by decide, by decide, by omega, by omega⟩
theorem decs_pow_le (N j L : Nat) (h : (decs N).length ≤ L) : (decs (N * 10 ^ j)).length ≤ L + j := by
  refine decs_len ?_
  rw [Nat.pow_add]
  exact Nat.mul_lt_mul_of_pos_right (Nat.lt_of_lt_of_le (lt_pow_decs N) (Nat.pow_le_pow_right (by omega) h)) (pow_pos10 j)
theorem atE_len {n : Bool} {N : Nat} {e k : Int} {L j : Nat} (h : (decs N).length ≤ L) (hj : (e - k).toNat ≤ j) : (decs (atE n N e k).natAbs).length ≤ L + j := by
  rw [atE, sv_natAbs]
  exact Nat.le_trans (decs_pow_le N _ L h) (by omega)
theorem dv1 : DV (-2) false ⟨#[49]⟩ 0 100 := by
  have h := DV.of_da (n := false) (k := -2) ex_one (by omega) (by omega) (by omega) (Nat.le_trans (atE_len (L := 1) (j := 2) (by rw [decs_snoc (by omega), decs_zero]; decide) (by omega)) (by omega))
  exact h
theorem dv25 : DV (-2) false ⟨#[50, 53]⟩ (-2) 25 := by
  have h := DV.of_da (n := false) (k := -2) da25 (by omega) (by omega) (by omega) (Nat.le_trans (atE_len (L := 2) (j := 0) (by rw [decs_snoc (by omega), decs_snoc (show 25 / 10 ≠ 0 by omega), decs_zero]; decide) (by omega)) (by omega))
  exact h
theorem small_len {Z : Int} {k : Nat} (h : Z.natAbs < 10 ^ k) (hk : k ≤ 4900) : (decs Z.natAbs).length ≤ 4900 := Nat.le_trans (decs_len h) hk
/-- A decimal of few digits, by value; and how long the value is. -/
theorem DV.of_fine {m : Nat} {n : Bool} {s : ByteArray} {e k : Int} (h : fineD m s e = true) (hm : m ≤ 1000) (hk : k ≤ e) (hk2 : -1000 ≤ k) :
    DV k n s e (atE n (dval (bdigs s)) e k) ∧ (decs (atE n (dval (bdigs s)) e k).natAbs).length ≤ m + (e - k).toNat := by
  obtain ⟨hg, hs⟩ := fineD_good h
  have hd := DA.of_good hg
  have hl : (decs (dval (bdigs s))).length ≤ m := by
    obtain ⟨ds, hds, hv⟩ := hd.isD
    rw [← hv]
    have := decs_dval_length ds hds.2
    have := hds.size
    omega
  have hlo := hd.lo
  have hhi := hd.hi
  have hx := atE_len (n := n) (e := e) (k := k) (j := (e - k).toNat) hl (Nat.le_refl _)
  exact ⟨DV.of_da hd (by omega) hk (by omega) (by omega), hx⟩
theorem DV.fine {m : Nat} (n : Bool) {s : ByteArray} {e : Int} (h : fineD m s e = true) (hm : m ≤ 1000) : ∃ V, DV (-1000) n s e V ∧ (decs V.natAbs).length ≤ m + 2000 := by
  have hd := DA.of_good (fineD_good h).1
  have hlo := hd.lo
  have hhi := hd.hi
  obtain ⟨h1, h2⟩ := DV.of_fine (n := n) (k := -1000) h hm (by omega) (by omega)
  exact ⟨_, h1, by omega⟩
theorem DV.fine300 {m : Nat} (n : Bool) {s : ByteArray} {e : Int} (h : fineD m s e = true) (hm : m ≤ 1000) (h1 : -300 ≤ e) (h2 : e ≤ 300) : ∃ V, DV (-300) n s e V ∧ (decs V.natAbs).length ≤ m + 600 := by
  obtain ⟨h3, h4⟩ := DV.of_fine (n := n) (k := -300) h hm h1 (by omega)
  exact ⟨_, h3, by omega⟩
theorem len_add {A C : Int} {L : Nat} (h1 : (decs A.natAbs).length ≤ L) (h2 : (decs C.natAbs).length ≤ L) : (decs (A + C).natAbs).length ≤ L + 1 := by
  refine decs_len ?_
  exact natAbs_add_lt (Nat.lt_of_lt_of_le (lt_pow_decs _) (Nat.pow_le_pow_right (by omega) h1)) (Nat.lt_of_lt_of_le (lt_pow_decs _) (Nat.pow_le_pow_right (by omega) h2))
theorem len_sub {A C : Int} {L : Nat} (h1 : (decs A.natAbs).length ≤ L) (h2 : (decs C.natAbs).length ≤ L) : (decs (A - C).natAbs).length ≤ L + 1 := by
  rw [Int.sub_eq_add_neg]; exact len_add h1 (by rwa [Int.natAbs_neg])
theorem len_mul {A C : Int} {L M : Nat} (h1 : (decs A.natAbs).length ≤ L) (h2 : (decs C.natAbs).length ≤ M) : (decs (A * C).natAbs).length ≤ L + M := by
  rw [Int.natAbs_mul]; exact decs_mul h1 h2
theorem z_zero (k : Int) : zneg 0 = false ∧ zstr 0 = ⟨#[48]⟩ ∧ zexp 0 k = 0 := ⟨rfl, nstr_zero, rfl⟩
theorem cmp_dv {k : Int} {n m : Bool} {s t : ByteArray} {e f V W : Int} (h : DV k n s e V) (h' : DV k m t f W) : ∃ N M, DA 30000 s e N ∧ DA 30000 t f M ∧ cmpV n N e m M f = cmpZ V W := by
  obtain ⟨⟨N, hd, rfl⟩, h1, -, -⟩ := h
  obtain ⟨⟨M, hd', rfl⟩, h1', -, -⟩ := h'
  exact ⟨N, M, hd, hd', cmpV_atE n N e m M f k h1 h1'⟩
theorem refCmp_d {k : Int} {n m : Bool} {s t : ByteArray} {e f V W C : Int} {w : World} (h : DV k n s e V) (h' : DV k m t f W) (hC : cmpZ V W = C) (hP : Pw w) :
    Calls Tryd.prog 16 #[.agg #[.bool n, .string s, .int .i64 e], .agg #[.bool m, .string t, .int .i64 f]] w fun r w' => r = .returned (.int .i64 C) ∧ Below w.heap.size w w' := by
  obtain ⟨N, M, hd, hd', hc⟩ := cmp_dv h h'
  rw [← hC, ← hc]
  exact ref5Cmp_c 30000 n m s t e f N M w hd hd' (by omega) hP

attribute [local go_sem] dec_field0 dec_field1 dec_field2 in
set_option maxHeartbeats 1600000 in
set_option maxRecDepth 100000 in
theorem answers06_c (w : World) (hP : Pw w) :
    Calls Tryd.prog 9 #[] w fun r w' => r = .returned (.bool true) ∧ Below w.heap.size w w' := by
  have HSUB := Lib.hid (fun (w : World) (hP : Pw w) => sub_d (Z := 75) (w := w) dv1 dv25 (by rfl) hP)
  rw [zx75.1, zx75.2.1, zx75.2.2] at HSUB
  have HMUL := Lib.hid (fun (w : World) (hP : Pw w) => mul_d (Z := 625) (K := -4) (w := w) dv25 dv25 (by rfl) (by rfl) (small_len (k := 3) (by decide) (by omega)) hP)
  rw [zx625.1, zx625.2.1, zx625.2.2] at HMUL
  have HSC := Lib.hid (fun (w : World) (hP : Pw w) => scale_c 1000 false _ _ _ 2 (by omega) (by omega) w da25 (by omega) hP)
  rw [zx25.1, zx25.2] at HSC
  have HNG := Lib.hid (fun (w : World) (hP : Pw w) => neg_c 1000 false _ _ _ w ex_one (by omega) hP)
  have HK := Lib.hid (kept_two w (.bool false) (.string ⟨#[49]⟩) (.int .i64 0) (.bool false) (.string ⟨#[50, 53]⟩) (.int .i64 (-2)) 23 hP)
  clear hP
  go_enter Tryd.func9, Tryd.ntmps9
  go_wp2_with fail
  refine (HSUB.out _ HK.out.1).mono ?_
  rintro r w1 ⟨rfl, hb⟩
  have hk := HK.out.keep hb
  replace HK := Lib.hid hk
  clear hk hb
  obtain ⟨⟨⟨c00, c01, c02⟩, ⟨c10, c11, c12⟩, -⟩, -⟩ := Sd.of HK.out
  go_wp2_with fail
  refine (HMUL.out _ HK.out.1).mono ?_
  rintro r w2 ⟨rfl, hb⟩
  clear c00 c01 c02 c10 c11 c12
  have hk := HK.out.keep hb
  replace HK := Lib.hid hk
  clear hk hb
  obtain ⟨⟨⟨c00, c01, c02⟩, ⟨c10, c11, c12⟩, -⟩, -⟩ := Sd.of HK.out
  go_wp2_with fail
  refine (HSC.out _ HK.out.1).mono ?_
  rintro r w3 ⟨rfl, hb⟩
  clear c00 c01 c02 c10 c11 c12
  have hk := HK.out.keep hb
  replace HK := Lib.hid hk
  clear hk hb
  obtain ⟨⟨⟨c00, c01, c02⟩, ⟨c10, c11, c12⟩, -⟩, -⟩ := Sd.of HK.out
  go_wp2_with fail
  refine (HNG.out _ HK.out.1).mono ?_
  rintro r w4 ⟨rfl, hb⟩
  clear c00 c01 c02 c10 c11 c12
  have hk := HK.out.keep hb
  replace HK := Lib.hid hk
  clear hk hb
  obtain ⟨⟨⟨c00, c01, c02⟩, ⟨c10, c11, c12⟩, -⟩, -⟩ := Sd.of HK.out
  go_wp2
  go_ret
  exact ⟨rfl, HK.out.2.1⟩
end Go.Proofs.YtbjdledincahkaaDoor
