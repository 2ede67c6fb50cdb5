/-
  TJ: answers of layer 13.
-/
import Derived.Test.YtglmcbdekmjlkaaTI
set_option maxRecDepth 100000
namespace Go.Proofs.Ytglmcbdekmjlkaa
open Go.RowKit
set_option maxHeartbeats 1000000 in
theorem answers13_c (w : World) : Calls Try.prog 8 #[] w fun e w' => e = .returned (.bool true) ∧ Below w.heap.size w w' := by
  have C1 := Lib.hid (tokScan_c ⟨#[39, 97, 39, 39, 98, 39, 35]⟩ w (by decide))
  have C2 := Lib.hid (fun W => tokScan_c ⟨#[39, 97]⟩ W (by decide))
  have t1 : toks (bts ⟨#[39, 97, 39, 39, 98, 39, 35]⟩) = ([(97, true, 1), (39, true, 2), (98, true, 4), (35, false, 6)], 0, 0) := by decide +kernel
  have t2 : toks (bts ⟨#[39, 97]⟩) = ([], 3, 0) := by decide +kernel
  have t3 : prtZ [(97, true, 1), (39, true, 2), (98, true, 4), (35, false, 6)] = ⟨#[39, 97, 39, 39, 98, 39, 35]⟩ := by decide +kernel
  rw [t1] at C1
  rw [t2] at C2
  have T3 := Lib.hid t3
  clear t1 t2 t3
  go_enter Try.func8, Try.ntmps8
  go_wp2_with fail
  refine C1.out.mono ?_
  rintro e w1 ⟨A, m, c, rfl, ho1, hb1⟩
  have hm : m = 4 := ho1.out.len.symm
  subst hm
  have H1 := Lib.hid ho1.out.tks
  have HB1 := Lib.hid hb1.out
  clear ho1 hb1 C1
  go_wp2_with fail
  refine (C2.out _).mono ?_
  rintro e w2 ⟨A2, m2, c2, rfl, ho2, hb2⟩
  have hq1 : w1.heap.size < (w1.alloc (.cells #[.int .i64 0, .int .i64 0] 26)).heap.size := by simp
  have F2 := (FB.new w1 (.int .i64 0) (.int .i64 0)).below hb2.out hq1
  have B2 := ((Below.refl _ w1).alloc (Nat.le_refl _) (.cells #[.int .i64 0, .int .i64 0] 26)).trans (hb2.out.mono (Nat.le_of_lt hq1))
  have hs2 : w1.heap.size ≤ w2.heap.size := B2.size
  have F3 := F2.alloc (.cells #[.int .i64 3, .int .i64 0] 26)
  have B3 := B2.alloc hs2 (.cells #[.int .i64 3, .int .i64 0] 26)
  have H3 := Lib.hid (H1.out.below B3)
  have HB3 := Lib.hid (HB1.out.trans (B3.mono HB1.out.size))
  have C3 := Lib.hid (tokPrint_c A 4 c _ _ H3.out (by decide))
  rw [T3.out] at C3
  have f0 := F3.c0
  obtain ⟨ad, rfl, hab, x10, x11, x12, _⟩ := H3.out.at_ (k := 1) (by decide)
  obtain ⟨ad', e, _, x30, x31, _, _⟩ := H3.out.at_ (k := 3) (by decide)
  cases e
  have y10 : (w2.alloc (.cells #[.int .i64 3, .int .i64 0] 26)).cell? ⟨ad.block, ad.off + 3, none⟩ = some (.int .i32 39) := x10
  have y11 : (w2.alloc (.cells #[.int .i64 3, .int .i64 0] 26)).cell? ⟨ad.block, ad.off + 4, none⟩ = some (.bool true) := x11
  have y12 : (w2.alloc (.cells #[.int .i64 3, .int .i64 0] 26)).cell? ⟨ad.block, ad.off + 5, none⟩ = some (.int .i64 2) := x12
  have y31 : (w2.alloc (.cells #[.int .i64 3, .int .i64 0] 26)).cell? ⟨ad.block, ad.off + 10, none⟩ = some (.bool false) := x31
  clear ho2 hb2 F2 F3 B2 B3 hq1 x10 x11 x12 x30 x31
  go_wp2_with fail
  refine C3.out.mono ?_
  rintro e w3 ⟨rfl, hb3⟩
  go_wp2
  go_ret
  exact ⟨rfl, HB3.out.trans (hb3.out.mono HB3.out.size)⟩
end Go.Proofs.Ytglmcbdekmjlkaa
