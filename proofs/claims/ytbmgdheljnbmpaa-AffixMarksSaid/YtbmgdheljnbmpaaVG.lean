/-
  VG: answers of layer 14.
-/
import Derived.Test.YtbmgdheljnbmpaaTJ
import Derived.Test.YtbmgdheljnbmpaaVF
set_option maxRecDepth 100000
namespace Go.Proofs.Ytbmgdheljnbmpaa
open Go.RowKit
set_option maxHeartbeats 1000000 in
theorem answers14_c (w : World) : Calls Try.prog 8 #[] w fun e w' => e = .returned (.bool true) ∧ Below w.heap.size w w' := by
  have C1 := Lib.hid (tokScan_c ⟨#[97, 45, 39, 45, 39]⟩ w (by decide))
  have t1 : toks (bts ⟨#[97, 45, 39, 45, 39]⟩) = ([(97, false, 0), (45, false, 1), (45, true, 3)], 0, 0) := by decide +kernel
  have t2 : itms [(97, false, 0), (45, false, 1), (45, true, 3)] = ([(1, 97), (2, 0), (1, 45)], 0, 0) := by decide +kernel
  have t3 : prtZ (tksI [(1, 97), (2, 0), (1, 45)]) = ⟨#[97, 45, 39, 45, 39]⟩ := by decide +kernel
  have t4 : nds 69 = true := by decide
  have t5 : nds 101 = false := by decide
  rw [t1] at C1
  have T2 := Lib.hid t2
  have T3 := Lib.hid t3
  have C5 := Lib.hid (needs_c 69)
  rw [t4] at C5
  have C6 := Lib.hid (needs_c 101)
  rw [t5] at C6
  clear t1 t2 t3 t4 t5
  go_enter Try.func8, Try.ntmps8
  go_wp2_with fail
  refine C1.out.mono ?_
  rintro e w1 ⟨A, m, c, rfl, ho1, hb1⟩
  have hm : m = 3 := ho1.out.len.symm
  subst hm
  have B1 := (Below.refl _ w1).alloc (Nat.le_refl _) (.cells #[.int .i64 0, .int .i64 0] 27)
  have H1 := Lib.hid (ho1.out.tks.below B1)
  have HB1 := Lib.hid (hb1.out.trans (B1.mono hb1.out.size))
  have C2 := Lib.hid (affItems_c A 3 c _ _ H1.out)
  rw [T2.out] at C2
  clear ho1 hb1 C1 B1
  go_wp2_with fail
  refine C2.out.mono ?_
  rintro e w2 ⟨A2, m2, c2, rfl, ho2, hb2⟩
  have hm : m2 = 3 := ho2.out.len.symm
  subst hm
  have B2 := (Below.refl _ w2).alloc (Nat.le_refl _) (.cells #[.int .i64 0, .int .i64 0] 27)
  have HB2 := Lib.hid (HB1.out.trans (hb2.out.mono HB1.out.size))
  have HB3 := Lib.hid (HB2.out.trans (B2.mono HB2.out.size))
  have H3 := Lib.hid (ho2.out.its.below B2)
  have C3 := Lib.hid (affPrint_c A2 3 c2 _ _ H3.out (by decide))
  rw [T3.out] at C3
  obtain ⟨ad, rfl, hab, x10, x11, _⟩ := H3.out.at_ (k := 1) (by decide)
  obtain ⟨ad', e, _, x20, x21, _⟩ := H3.out.at_ (k := 2) (by decide)
  cases e
  have y10 : (w2.alloc (.cells #[.int .i64 0, .int .i64 0] 27)).cell? ⟨ad.block, ad.off + 2, none⟩ = some (.int .i64 2) := x10
  have y20 : (w2.alloc (.cells #[.int .i64 0, .int .i64 0] 27)).cell? ⟨ad.block, ad.off + 4, none⟩ = some (.int .i64 1) := x20
  have y21 : (w2.alloc (.cells #[.int .i64 0, .int .i64 0] 27)).cell? ⟨ad.block, ad.off + 5, none⟩ = some (.int .i32 45) := x21
  clear ho2 hb2 B2 x10 x11 x20 x21
  go_wp2_with fail
  refine C3.out.mono ?_
  rintro e w3 ⟨rfl, hb3⟩
  have HB4 := Lib.hid (HB3.out.trans (hb3.out.mono HB3.out.size))
  clear hb3
  go_wp2_with fail
  refine (C5.out _).mono ?_
  rintro e w4 ⟨rfl, hb4⟩
  have HB5 := Lib.hid (HB4.out.trans (hb4.mono HB4.out.size))
  clear hb4
  go_wp2_with fail
  refine (C6.out _).mono ?_
  rintro e w5 ⟨rfl, hb5⟩
  have HB6 := Lib.hid (HB5.out.trans (hb5.mono HB5.out.size))
  clear hb5
  go_wp2
  go_ret
  exact ⟨rfl, HB6.out⟩
end Go.Proofs.Ytbmgdheljnbmpaa
