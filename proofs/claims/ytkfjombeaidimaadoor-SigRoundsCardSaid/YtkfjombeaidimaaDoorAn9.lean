/-
  An9: what a program that does nothing does not answer (layer 9).
-/
import Derived.Test.YtkfjombeaidimaaDoorSm9
set_option maxRecDepth 100000
namespace Go.Proofs.YtkfjombeaidimaaDoor
open Go.RowKit
theorem da12345 : DA 0 ⟨#[49, 50, 51, 52, 53]⟩ 0 12345 := ⟨⟨[1, 2, 3, 4, 5], ⟨rfl, by decide⟩, rfl⟩, by decide, by decide, by omega, by omega⟩
theorem len12345 : (decs 12345).length = 5 := by
  rw [decs_snoc (by omega), decs_snoc (show 12345 / 10 ≠ 0 by omega), decs_snoc (show 12345 / 10 / 10 ≠ 0 by omega), decs_snoc (show 12345 / 10 / 10 / 10 ≠ 0 by omega), decs_snoc (show 12345 / 10 / 10 / 10 / 10 ≠ 0 by omega), show 12345 / 10 / 10 / 10 / 10 / 10 = 0 by omega, decs_zero]; rfl
theorem tz12300 : tz10 12300 = 2 := by rw [tz10_step (by omega) rfl, tz10_step (by omega) rfl, tz10_none (by omega)]
theorem n12300 : nstr 12300 = ⟨#[49, 50, 51]⟩ ∧ nexp 12300 0 = 2 := by
  refine ⟨?_, ?_⟩
  · rw [nstr, nq, tz12300, show 12300 / 10 ^ 2 = 123 by omega, decs_snoc (by omega), decs_snoc (show 123 / 10 ≠ 0 by omega), decs_snoc (show 123 / 10 / 10 ≠ 0 by omega), show 123 / 10 / 10 / 10 = 0 by omega, decs_zero]; rfl
  · rw [nexp_of (by omega), tz12300]; rfl
theorem rnd12345 : rndV 5 false 12345 100 0 = .tuple #[.agg #[.bool false, .string ⟨#[49, 50, 51]⟩, .int .i64 2], .int .i64 0] := by
  have h : rndN 5 false 12345 100 = 12300 := by decide
  rw [rndV_of (by omega), h, n12300.1, n12300.2]
theorem du12345 : DU 0 ⟨#[49, 50, 51, 52, 53]⟩ 0 12345 := DU.one da12345 (by omega) (by omega) (by omega) (by simp) (by rw [len12345]; omega)
theorem top12345 : dtop 12345 0 = 4 := by rw [dtop, if_neg (by omega), len12345]; rfl
theorem da123 : DA 0 ⟨#[49, 50, 51]⟩ 0 123 := ⟨⟨[1, 2, 3], ⟨rfl, by decide⟩, rfl⟩, by decide, by decide, by omega, by omega⟩
theorem len12300 : (decs 12300).length = 5 := by
  have h1 := decs_len (show 12300 < 10 ^ 5 by omega)
  have h2 := (pow_le_iff 12300 4).1 (by omega)
  omega
theorem du123 : DU 0 ⟨#[49, 50, 51]⟩ 2 12300 := DU.one da123 (by omega) (by omega) (by omega) (by decide) (by rw [len12300]; omega)
theorem top12300 : dtop 12300 0 = 4 := by rw [dtop, if_neg (by omega), len12300]; rfl
attribute [local go_sem] dec_field0 dec_field1 dec_field2 in
set_option maxHeartbeats 4000000 in
set_option maxRecDepth 100000 in
theorem answers09_c (w : World) (hP : Pw w) :
    Calls Tryd.prog 9 #[] w fun r w' => r = .returned (.bool true) ∧ Below w.heap.size w w' := by
  have HR := Lib.hid (fun (w : World) (hP : Pw w) => sigRound_u (m := 5) (n := false) (a := 3) (p := 2) (W := 100) (w := w) rfl du12345 (by omega) (by omega) (by rw [top12345]; rfl) (by omega) (by omega) (by decide) rnd12345 hP)
  have HPL := Lib.hid (fun (w : World) (hP : Pw w) => sigPlace_u (n := false) (a := 1) (p := 4) (j := 1) (w := w) du123 (by omega) (by rw [top12300]; rfl) (by omega) (by omega) hP)
  have HCO := Lib.hid (fun (w : World) (hP : Pw w) => sigCount_u (n := false) (v := 3) (w := w) du123 (by rw [n12300.1]; rfl) hP)
  have HK := Lib.hid (show Kept3 w [] w from ⟨hP, Below.refl _ _, by intro t ht; cases ht⟩)
  clear hP
  go_enter Tryd.func9, Tryd.ntmps9
  go_wp2_with fail
  refine (HR.out _ HK.out.1).mono ?_
  rintro r w1 ⟨rfl, hb⟩
  replace HK := Lib.hid (show Kept3 w [(w1.heap.size, .bool false, .string ⟨#[49, 50, 51]⟩, .int .i64 2)] (w1.alloc (.cells #[.bool false, .string ⟨#[49, 50, 51]⟩, .int .i64 2] 23)) from (HK.out.keep hb).grow _ _ _ _)
  clear hb
  obtain ⟨⟨⟨c00, c01, c02⟩, -⟩, -⟩ := Sd.of HK.out
  go_wp2_with fail
  refine (HPL.out _ HK.out.1).mono ?_
  rintro r w2 ⟨rfl, hb⟩
  clear c00 c01 c02
  replace HK := Lib.hid (HK.out.keep hb)
  clear hb
  obtain ⟨⟨⟨c00, c01, c02⟩, -⟩, -⟩ := Sd.of HK.out
  go_wp2_with fail
  refine (HCO.out _ HK.out.1).mono ?_
  rintro r w3 ⟨rfl, hb⟩
  clear c00 c01 c02
  replace HK := Lib.hid (HK.out.keep hb)
  clear hb
  go_wp2
  go_ret
  exact ⟨rfl, HK.out.2.1⟩
end Go.Proofs.YtkfjombeaidimaaDoor
