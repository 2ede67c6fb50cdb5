/-
  An8: what a program that does nothing does not answer (layer 8).
-/
import Derived.Test.YtonanpnacoegcaaDoorP8R
set_option maxRecDepth 100000
namespace Go.Proofs.YtonanpnacoegcaaDoor
open Go.RowKit
theorem da25_8 : DA 1000 ⟨#[50, 53]⟩ (-1) 25 := ⟨⟨[2, 5], ⟨rfl, by decide⟩, rfl⟩, by decide, by decide, by omega, by omega⟩
theorem da20_8 : DA 1000 ⟨#[50, 48]⟩ (-1) 20 := ⟨⟨[2, 0], ⟨rfl, by decide⟩, rfl⟩, by decide, by decide, by omega, by omega⟩
theorem len25 : (decs 25).length ≤ 4980 := by rw [decs_snoc (by omega), decs_snoc (show 25 / 10 ≠ 0 by omega), decs_zero]; decide
theorem tz20 : tz10 20 = 1 := by rw [tz10_step (by omega) rfl, tz10_none (by omega)]
theorem n20 : nstr 20 = ⟨#[50]⟩ ∧ nexp 20 (-1) = 0 := by
  refine ⟨?_, ?_⟩
  · rw [nstr, nq, tz20, show 20 / 10 ^ 1 = 2 by omega, decs_snoc (by omega), decs_zero]; rfl
  · rw [nexp_of (by omega), tz20]; rfl
theorem rnd25 : rndV 4 false 25 10 (-1) = .tuple #[.agg #[.bool false, .string ⟨#[50]⟩, .int .i64 0], .int .i64 0] := by
  have h : rndN 4 false 25 10 = 20 := by decide
  rw [rndV_of (by omega), h, n20.1, n20.2]
theorem rnd25x : rndV 7 false 25 10 (-1) = .tuple #[.agg #[.bool false, .string ⟨#[]⟩, .int .i64 0], .int .i64 11] := rndV_no (by omega)
theorem fits20 : fitsB 20 (-1) 0 = true := by rw [fitsB, n20.2]; rfl
attribute [local go_sem] dec_field0 dec_field1 dec_field2 in
set_option maxHeartbeats 4000000 in
set_option maxRecDepth 100000 in
theorem answers08_c (w : World) (hP : Pw w) :
    Calls Tryd.prog 10 #[] w fun r w' => r = .returned (.bool true) ∧ Below w.heap.size w w' := by
  have HR := Lib.hid (fun (w : World) (hP : Pw w) => placeRound_c 1000 4 false _ _ 25 25 10 (-1) 0 w rfl da25_8 (by omega) (by omega) rfl rfl len25 (by omega) (by omega) (by omega) hP)
  rw [rnd25] at HR
  have HX := Lib.hid (fun (w : World) (hP : Pw w) => placeRound_c 1000 7 false _ _ 25 25 10 (-1) 0 w rfl da25_8 (by omega) (by omega) rfl rfl len25 (by omega) (by omega) (by omega) hP)
  rw [rnd25x] at HX
  have HF := Lib.hid (fun (w : World) (hP : Pw w) => placeFits_c 1000 false _ _ 20 0 w da20_8 (by omega) hP)
  rw [fits20] at HF
  have HK := Lib.hid (show Kept3 w [] w from ⟨hP, Below.refl _ _, by intro t ht; cases ht⟩)
  clear hP
  go_enter Tryd.func10, Tryd.ntmps10
  go_wp2_with fail
  refine (HR.out _ HK.out.1).mono ?_
  rintro r w1 ⟨rfl, hb⟩
  replace HK := Lib.hid (show Kept3 w [(w1.heap.size, .bool false, .string ⟨#[50]⟩, .int .i64 0)] (w1.alloc (.cells #[.bool false, .string ⟨#[50]⟩, .int .i64 0] 23)) from (HK.out.keep hb).grow _ _ _ _)
  clear hb
  obtain ⟨⟨⟨c00, c01, c02⟩, -⟩, -⟩ := Sd.of HK.out
  go_wp2_with fail
  refine (HX.out _ HK.out.1).mono ?_
  rintro r w2 ⟨rfl, hb⟩
  clear c00 c01 c02
  replace HK := Lib.hid (show Kept3 w [(w1.heap.size, .bool false, .string ⟨#[50]⟩, .int .i64 0), (w2.heap.size, .bool false, .string ⟨#[]⟩, .int .i64 0)] (w2.alloc (.cells #[.bool false, .string ⟨#[]⟩, .int .i64 0] 23)) from (HK.out.keep hb).grow _ _ _ _)
  clear hb
  obtain ⟨⟨⟨c00, c01, c02⟩, -⟩, -⟩ := Sd.of HK.out
  go_wp2_with fail
  refine (HF.out _ HK.out.1).mono ?_
  rintro r w3 ⟨rfl, hb⟩
  clear c00 c01 c02
  replace HK := Lib.hid (HK.out.keep hb)
  clear hb
  go_wp2
  go_ret
  exact ⟨rfl, HK.out.2.1⟩
end Go.Proofs.YtonanpnacoegcaaDoor
