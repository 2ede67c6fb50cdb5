/-
  SymbolLatin: the walk.
-/
import Derived.Test.YtljgpdghpkpffaaYG
set_option maxRecDepth 100000
namespace Go.Proofs.Ytljgpdghpkpffaa
open Go.RowKit Go.ChangeMaps
theorem row5_at (mi pl pc pm cu : ByteArray) {j : Nat} (hj : j < 5) : (#[.string mi, .string pl, .string pc, .string pm, .string cu] : Array Value)[j]? = some (.string (tx5 mi pl pc pm cu j)) := by
  obtain rfl | rfl | rfl | rfl | rfl : j = 0 ∨ j = 1 ∨ j = 2 ∨ j = 3 ∨ j = 4 := by omega
  all_goals rfl
theorem sign_text {tx : Nat → ByteArray} {j : Nat} (hj : j < 5) : stz (if [((j : Int) + 2, (0 : Int))].all mayI then txI tx [((j : Int) + 2, 0)] else []) = tx j := by
  have hm : [((j : Int) + 2, (0 : Int))].all mayI = true := by
    simp only [List.all_cons, List.all_nil, Bool.and_true]
    exact mayI_iff.2 (.inr ⟨by omega, by omega, rfl⟩)
  rw [hm, if_pos rfl, txI, List.flatMap_cons, List.flatMap_nil, List.append_nil, itT_sign, stz_bts]
set_option maxHeartbeats 2000000 in
theorem refPrintItems18_c (A : Option Addr) (n c : Nat) (is : List Itm) (w : World) (h : Its w A n is) (hn : n ≤ 1000) (hm : is.all mayI = true) : Calls Try.prog 15 #[.slice A n c] w fun e w' => e = .returned (.string (prtZ (is.map tkI))) ∧ Below w.heap.size w w' := by
  have HC := Lib.hid (refTokens_c A n c is w h (by omega) hm)
  have HL := Lib.hid h.len
  have hmt : (is.map tkI).all mayT = true := by rw [← tksI_may hm]; exact tksI_mayT is
  have HMT := Lib.hid hmt
  clear h hm hmt
  go_enter Try.func15, Try.ntmps15
  go_wp2_with (first
    | (go_at_call 29; refine HC.out.mono ?_; rintro e w1 ⟨A1, m1, c1, rfl, ho, hb1⟩; have hl := ho.out.len; rw [List.length_map] at hl; have hl2 := HL.out)
    | (go_at_call 28; refine (refPrint_c _ _ _ _ _ ho.out.tks (by omega) HMT.out).mono ?_; rintro e w2 ⟨rfl, hb2⟩)
    | fail)
  go_ret
  exact ⟨rfl, hb1.out.trans (hb2.mono hb1.out.size)⟩
theorem lat_same : ∀ j : Nat, j < 5 → tx5 ⟨#[45]⟩ ⟨#[43]⟩ ⟨#[37]⟩ ⟨#[226, 128, 176]⟩ ⟨#[194, 164]⟩ j = prtZ ([((j : Int) + 2, (0 : Int))].map tkI) := by decide +kernel
set_option maxHeartbeats 4000000 in
theorem walk_symbolLatin (k : Int) (w : World) (hk : 0 ≤ k ∧ k ≤ 255) :
    Calls Try.prog 6 #[.int .u8 k] w fun e' w' => e' = .returned (.bool true) ∧ Below w.heap.size w w' := by
  have CL := Lib.hid (latin_c w)
  have CG := Lib.hid (fun W => refGood18_c 48 ⟨#[46]⟩ ⟨#[44]⟩ ⟨#[45]⟩ ⟨#[43]⟩ ⟨#[37]⟩ ⟨#[226, 128, 176]⟩ ⟨#[194, 164]⟩ ⟨#[69]⟩ W (by decide) (by decide +kernel))
  rw [lat_good] at CG
  obtain ⟨j, hj, hjk⟩ : ∃ j : Nat, j < 5 ∧ k.tmod 5 = (j : Int) := by
    rw [Int.tmod_eq_emod_of_nonneg hk.1]
    exact ⟨(k % 5).toNat, by omega, by omega⟩
  have CT := Lib.hid (fun (A : Option Addr) W hW => symText_c 48 ⟨#[46]⟩ ⟨#[44]⟩ ⟨#[45]⟩ ⟨#[43]⟩ ⟨#[37]⟩ ⟨#[226, 128, 176]⟩ ⟨#[194, 164]⟩ ⟨#[69]⟩ A 1 1 [((j : Int) + 2, 0)] W hW (by omega) lat_size)
  rw [sign_text hj, lat_same j hj] at CT
  have CP := Lib.hid (fun (A : Option Addr) W hW => refPrintItems18_c A 1 1 [((j : Int) + 2, 0)] W hW (by omega) (by
    simp only [List.all_cons, List.all_nil, Bool.and_true]
    exact mayI_iff.2 (.inr ⟨by omega, by omega, rfl⟩)))
  generalize prtZ ([((j : Int) + 2, (0 : Int))].map tkI) = TX at *
  have gt : (TX.toList == TX.toList) = true := by simp
  have w8 : IntKind.u8.wrap (j : Int) = (j : Int) := by
    have : (j : Int) % 256 = j := Int.emod_eq_of_lt (by omega) (by omega)
    simpa [IntKind.wrap, IntKind.bits, IntKind.signed] using this
  go_enter Try.func6, Try.ntmps6
  go_upto_region 2 with fail
  clear hjk w8
  go_wp2_with fail
  refine CL.out.mono ?_
  rintro e1 w1 ⟨rfl, hb1⟩
  go_upto_region 3 with fail
  have HX := Lib.hid (BX.new w1 #[.int .i32 48, .string ⟨#[46]⟩, .string ⟨#[44]⟩, .string ⟨#[45]⟩, .string ⟨#[43]⟩, .string ⟨#[37]⟩, .string ⟨#[226, 128, 176]⟩, .string ⟨#[194, 164]⟩, .string ⟨#[69]⟩] 23)
  have b2 := (Below.refl w1.heap.size w1).alloc (Nat.le_refl _) (.cells #[.int .i32 48, .string ⟨#[46]⟩, .string ⟨#[44]⟩, .string ⟨#[45]⟩, .string ⟨#[43]⟩, .string ⟨#[37]⟩, .string ⟨#[226, 128, 176]⟩, .string ⟨#[194, 164]⟩, .string ⟨#[69]⟩] 23)
  have HB := Lib.hid (hb1.out.trans (b2.mono hb1.out.size))
  clear b2 hb1 CL
  have HGW := Lib.hid HB.out.size
  generalize w1.alloc (.cells #[.int .i32 48, .string ⟨#[46]⟩, .string ⟨#[44]⟩, .string ⟨#[45]⟩, .string ⟨#[43]⟩, .string ⟨#[37]⟩, .string ⟨#[226, 128, 176]⟩, .string ⟨#[194, 164]⟩, .string ⟨#[69]⟩] 23) = W1 at *
  go_upto_region 4 with fail
  have HI := Lib.hid (its_lit1 W1 ((j : Int) + 2) 0 (by unfold RI; omega))
  have b2 := (Below.refl W1.heap.size W1).alloc (Nat.le_refl _) (.cells #[.int .i64 ((j : Int) + 2), .int .i32 0] 34)
  have HB2 := Lib.hid (HB.out.trans (b2.mono HGW.out))
  have HGW2 := Lib.hid (Nat.le_trans HGW.out b2.size)
  have HX2 := Lib.hid (HX.out.below b2 HX.out.lt)
  clear b2 HX
  generalize W1.alloc (.cells #[.int .i64 ((j : Int) + 2), .int .i32 0] 34) = W2 at *
  go_wp2_with fail
  refine (answers18_c _).mono ?_
  rintro e5 w5 ⟨rfl, hb5⟩
  have HB5 := Lib.hid (HB2.out.trans (hb5.out.mono HGW2.out))
  have HGW5 := Lib.hid (Nat.le_trans HGW2.out hb5.out.size)
  have HX5 := Lib.hid (HX2.out.below hb5.out HX2.out.lt)
  have HI5 := Lib.hid (HI.out.below hb5.out)
  clear hb5 HX2 HI
  have d0 := HX5.out.c 0
  have d1 := HX5.out.c 1
  have d2 := HX5.out.c 2
  have d3 := HX5.out.c 3
  have d4 := HX5.out.c 4
  have d5 := HX5.out.c 5
  have d6 := HX5.out.c 6
  have d7 := HX5.out.c 7
  have d8 := HX5.out.c 8
  go_wp2_with fail
  refine (CG.out _).mono ?_
  rintro e6 w6 ⟨rfl, hb6⟩
  have HB6 := Lib.hid (HB5.out.trans (hb6.out.mono HGW5.out))
  have HGW6 := Lib.hid (Nat.le_trans HGW5.out hb6.out.size)
  have HX6 := Lib.hid (HX5.out.below hb6.out HX5.out.lt)
  have HI6 := Lib.hid (HI5.out.below hb6.out)
  clear hb6 HX5 HI5
  clear d0 d1 d2 d3 d4 d5 d6 d7 d8
  have d0 := HX6.out.c 0
  have d1 := HX6.out.c 1
  have d2 := HX6.out.c 2
  have d3 := HX6.out.c 3
  have d4 := HX6.out.c 4
  have d5 := HX6.out.c 5
  have d6 := HX6.out.c 6
  have d7 := HX6.out.c 7
  have d8 := HX6.out.c 8
  go_wp2_with fail
  refine (CT.out _ _ HI6.out).mono ?_
  rintro e7 w7 ⟨rfl, hb7⟩
  have HB7 := Lib.hid (HB6.out.trans (hb7.out.mono HGW6.out))
  have HGW7 := Lib.hid (Nat.le_trans HGW6.out hb7.out.size)
  have HI7 := Lib.hid (HI6.out.below hb7.out)
  clear hb7 HI6
  go_wp2_with fail
  refine (CP.out _ _ HI7.out).mono ?_
  rintro e8 w8 ⟨rfl, hb8⟩
  go_wp2
  go_ret
  exact ⟨rfl, HB7.out.trans (hb8.mono HGW7.out)⟩
end Go.Proofs.Ytljgpdghpkpffaa
