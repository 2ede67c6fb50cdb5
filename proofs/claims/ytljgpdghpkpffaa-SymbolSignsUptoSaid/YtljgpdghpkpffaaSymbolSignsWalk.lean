/-
  SymbolSigns: the walk.
-/
import Derived.Test.YtljgpdghpkpffaaYG
set_option maxRecDepth 100000
namespace Go.Proofs.Ytljgpdghpkpffaa
open Go.RowKit Go.ChangeMaps
theorem row5_at (mi pl pc pm cu : ByteArray) {j : Nat} (hj : j < 5) : (#[.string mi, .string pl, .string pc, .string pm, .string cu] : Array Value)[j]? = some (.string (tx5 mi pl pc pm cu j)) := by
  obtain rfl | rfl | rfl | rfl | rfl : j = 0 ∨ j = 1 ∨ j = 2 ∨ j = 3 ∨ j = 4 := by omega
  all_goals rfl
theorem sign_text {tx : Nat → ByteArray} {j : Nat} (hj : j < 5) : stz (if [((j : Int) + 2, (0 : Int))].all mayI then txI tx [((j : Int) + 2, 0)] else []) = tx j := by
  have hm : [((j : Int) + 2, (0 : Int))].all mayI = true := by
    simp only [List.all_cons, List.all_nil, Bool.and_true]
    exact mayI_iff.2 (.inr ⟨by omega, by omega, rfl⟩)
  rw [hm, if_pos rfl, txI, List.flatMap_cons, List.flatMap_nil, List.append_nil, itT_sign, stz_bts]
set_option maxHeartbeats 4000000 in
theorem walk_symbolSigns (z : Int) (d g mi pl pc pm cu e : ByteArray) (k : Int) (o : ByteArray) (w : World) (hz : -2147483648 ≤ z ∧ z ≤ 2147483647) (hs : ∀ k, k < 8 → (tx8 d g mi pl pc pm cu e k).size ≤ 1048576) (hk : 0 ≤ k ∧ k ≤ 255) (_ho : o.size ≤ 1048576) :
    Calls Try.prog 7 #[.agg #[.int .i32 z, .string d, .string g, .string mi, .string pl, .string pc, .string pm, .string cu, .string e], .int .u8 k, .string o] w fun e' w' => e' = .returned (.bool true) ∧ Below w.heap.size w w' := by
  have CG := Lib.hid (fun W => refGood18_c z d g mi pl pc pm cu e W hz fun k hk => Nat.le_trans (hs k hk) (by decide))
  have HT := Lib.hid (good_tx5 (z := z) (d := d) (g := g) (mi := mi) (pl := pl) (pc := pc) (pm := pm) (cu := cu) (e := e))
  obtain ⟨j, hj, hjk⟩ : ∃ j : Nat, j < 5 ∧ k.tmod 5 = (j : Int) := by
    rw [Int.tmod_eq_emod_of_nonneg hk.1]
    exact ⟨(k % 5).toNat, by omega, by omega⟩
  have HJ := Lib.hid hjk
  clear hjk
  have HX : Hid (BXS (w.alloc (.cells #[.int .i32 z, .string d, .string g, .string mi, .string pl, .string pc, .string pm, .string cu, .string e] 23)) w.heap.size z d g mi pl pc pm cu e) := Lib.hid (BX.new _ _ _)
  have hB : Below w.heap.size w (w.alloc (.cells #[.int .i32 z, .string d, .string g, .string mi, .string pl, .string pc, .string pm, .string cu, .string e] 23)) := (Below.refl _ _).alloc (Nat.le_refl _) _
  have HB := Lib.hid hB
  have HGW := Lib.hid hB.size
  clear hB
  go_enter Try.func7, Try.ntmps7
  go_upto_region 1 with fail
  generalize w.alloc (.cells #[.int .i32 z, .string d, .string g, .string mi, .string pl, .string pc, .string pm, .string cu, .string e] 23) = W0 at *
  generalize hG : w.heap.size = G at *
  have HG := Lib.hid hG
  clear hG
  have d0 := HX.out.c 0
  have d1 := HX.out.c 1
  have d2 := HX.out.c 2
  have d3 := HX.out.c 3
  have d4 := HX.out.c 4
  have d5 := HX.out.c 5
  have d6 := HX.out.c 6
  have d7 := HX.out.c 7
  have d8 := HX.out.c 8
  rcases hg : goodS z (tx8 d g mi pl pc pm cu e) with _ | _
  · rw [hg] at CG
    clear hg HT
    go_wp2_with fail
    refine (CG.out _).mono ?_
    rintro e1 w1 ⟨rfl, hb1⟩
    have HB1 := Lib.hid (HB.out.trans (hb1.out.mono HGW.out))
    have HGW1 := Lib.hid (Nat.le_trans HGW.out hb1.out.size)
    clear hb1
    clear d0 d1 d2 d3 d4 d5 d6 d7 d8
    go_wp2_with (first
      | (go_at_call 8; refine (answers18_c _).mono ?_; rintro ea wa ⟨rfl, hba⟩)
      | (with_reducible go_skip)
      | fail)
    go_ret
    exact ⟨rfl, by rw [HG.out]; exact HB1.out.trans (hba.out.mono HGW1.out)⟩
  · rw [hg] at CG
    have hsz := HT.out hg
    clear hg HT
    by_cases h100 : 100 < o.size
    · have g1 : decide ((100 : Int) < (o.size : Int)) = true := decide_eq_true (by omega)
      go_wp2_with fail
      refine (CG.out _).mono ?_
      rintro e1 w1 ⟨rfl, hb1⟩
      have HB1 := Lib.hid (HB.out.trans (hb1.out.mono HGW.out))
      have HGW1 := Lib.hid (Nat.le_trans HGW.out hb1.out.size)
      clear hb1
      clear d0 d1 d2 d3 d4 d5 d6 d7 d8
      go_wp2_with (first
        | (go_at_call 8; refine (answers18_c _).mono ?_; rintro ea wa ⟨rfl, hba⟩)
        | (with_reducible go_skip)
        | fail)
      go_ret
      exact ⟨rfl, by rw [HG.out]; exact HB1.out.trans (hba.out.mono HGW1.out)⟩
    · have g1 : decide ((100 : Int) < (o.size : Int)) = false := decide_eq_false (by omega)
      have CT := Lib.hid (fun (A : Option Addr) W hW => symText_c z d g mi pl pc pm cu e A 1 1 [((j : Int) + 2, 0)] W hW (by omega) hsz)
      have CU := Lib.hid (fun (A : Option Addr) W hW => symText_c 0 o o mi pl pc pm cu o A 1 1 [((j : Int) + 2, 0)] W hW (by omega) hsz)
      have HTX := Lib.hid (sign_text (tx := tx5 mi pl pc pm cu) hj)
      rw [HTX.out] at CT CU
      clear hsz h100
      go_wp2_with fail
      refine (CG.out _).mono ?_
      rintro e1 w1 ⟨rfl, hb1⟩
      have HB1 := Lib.hid (HB.out.trans (hb1.out.mono HGW.out))
      have HGW1 := Lib.hid (Nat.le_trans HGW.out hb1.out.size)
      have HX1 := Lib.hid (HX.out.below hb1.out HX.out.lt)
      clear hb1 CG HX
      clear d0 d1 d2 d3 d4 d5 d6 d7 d8
      have hjk := HJ.out
      have w8 : IntKind.u8.wrap (j : Int) = (j : Int) := by
        have : (j : Int) % 256 = j := Int.emod_eq_of_lt (by omega) (by omega)
        simpa [IntKind.wrap, IntKind.bits, IntKind.signed] using this
      go_upto_region 5 with fail
      clear hjk w8 g1
      have HI2 := Lib.hid (its_lit1 w1 ((j : Int) + 2) 0 (by unfold RI; omega))
      have b2 := (Below.refl w1.heap.size w1).alloc (Nat.le_refl _) (.cells #[.int .i64 ((j : Int) + 2), .int .i32 0] 34)
      have HB2 := Lib.hid (HB1.out.trans (b2.mono HGW1.out))
      have HGW2 := Lib.hid (Nat.le_trans HGW1.out b2.size)
      have HX2 := Lib.hid (HX1.out.below b2 HX1.out.lt)
      clear b2 HX1
      generalize w1.alloc (.cells #[.int .i64 ((j : Int) + 2), .int .i32 0] 34) = W2 at *
      have d0 := HX2.out.c 0
      have d1 := HX2.out.c 1
      have d2 := HX2.out.c 2
      have d3 := HX2.out.c 3
      have d4 := HX2.out.c 4
      have d5 := HX2.out.c 5
      have d6 := HX2.out.c 6
      have d7 := HX2.out.c 7
      have d8 := HX2.out.c 8
      have hr := ((BX.new W2 #[.string mi, .string pl, .string pc, .string pm, .string cu] 9).c j).trans (row5_at mi pl pc pm cu hj)
      go_upto_region 6 with fail
      clear hr
      clear d0 d1 d2 d3 d4 d5 d6 d7 d8
      have b3 := (Below.refl W2.heap.size W2).alloc (Nat.le_refl _) (.cells #[.string mi, .string pl, .string pc, .string pm, .string cu] 9)
      have HB3 := Lib.hid (HB2.out.trans (b3.mono HGW2.out))
      have HGW3 := Lib.hid (Nat.le_trans HGW2.out b3.size)
      have HX3 := Lib.hid (HX2.out.below b3 HX2.out.lt)
      have HI3 := Lib.hid (HI2.out.below b3)
      clear b3 HX2 HI2
      generalize W2.alloc (.cells #[.string mi, .string pl, .string pc, .string pm, .string cu] 9) = W3 at *
      have d0 := HX3.out.c 0
      have d1 := HX3.out.c 1
      have d2 := HX3.out.c 2
      have d3 := HX3.out.c 3
      have d4 := HX3.out.c 4
      have d5 := HX3.out.c 5
      have d6 := HX3.out.c 6
      have d7 := HX3.out.c 7
      have d8 := HX3.out.c 8
      go_upto_region 8 with fail
      clear d0 d1 d2 d3 d4 d5 d6 d7 d8
      have HY4 := Lib.hid (BX.new W3 #[.int .i32 0, .string o, .string o, .string mi, .string pl, .string pc, .string pm, .string cu, .string o] 23)
      have b4 := (Below.refl W3.heap.size W3).alloc (Nat.le_refl _) (.cells #[.int .i32 0, .string o, .string o, .string mi, .string pl, .string pc, .string pm, .string cu, .string o] 23)
      have HB4 := Lib.hid (HB3.out.trans (b4.mono HGW3.out))
      have HGW4 := Lib.hid (Nat.le_trans HGW3.out b4.size)
      have HX4 := Lib.hid (HX3.out.below b4 HX3.out.lt)
      have HI4 := Lib.hid (HI3.out.below b4)
      clear b4 HX3 HI3
      generalize W3.alloc (.cells #[.int .i32 0, .string o, .string o, .string mi, .string pl, .string pc, .string pm, .string cu, .string o] 23) = W4 at *
      have gt : ((tx5 mi pl pc pm cu j).toList == (tx5 mi pl pc pm cu j).toList) = true := by simp
      generalize tx5 mi pl pc pm cu j = TX at *
      go_wp2_with fail
      refine (answers18_c _).mono ?_
      rintro e5 w5 ⟨rfl, hb5⟩
      have HB5 := Lib.hid (HB4.out.trans (hb5.out.mono HGW4.out))
      have HGW5 := Lib.hid (Nat.le_trans HGW4.out hb5.out.size)
      have HX5 := Lib.hid (HX4.out.below hb5.out HX4.out.lt)
      have HI5 := Lib.hid (HI4.out.below hb5.out)
      have HY5 := Lib.hid (HY4.out.below hb5.out HY4.out.lt)
      clear hb5 HX4 HI4 HY4
      have d0 := HX5.out.c 0
      have d1 := HX5.out.c 1
      have d2 := HX5.out.c 2
      have d3 := HX5.out.c 3
      have d4 := HX5.out.c 4
      have d5 := HX5.out.c 5
      have d6 := HX5.out.c 6
      have d7 := HX5.out.c 7
      have d8 := HX5.out.c 8
      go_wp2_with fail
      refine (CT.out _ _ HI5.out).mono ?_
      rintro e6 w6 ⟨rfl, hb6⟩
      have HB6 := Lib.hid (HB5.out.trans (hb6.out.mono HGW5.out))
      have HGW6 := Lib.hid (Nat.le_trans HGW5.out hb6.out.size)
      have HI6 := Lib.hid (HI5.out.below hb6.out)
      have HY6 := Lib.hid (HY5.out.below hb6.out HY5.out.lt)
      clear hb6 HX5 HI5 HY5
      clear d0 d1 d2 d3 d4 d5 d6 d7 d8
      have d0 := HY6.out.c 0
      have d1 := HY6.out.c 1
      have d2 := HY6.out.c 2
      have d3 := HY6.out.c 3
      have d4 := HY6.out.c 4
      have d5 := HY6.out.c 5
      have d6 := HY6.out.c 6
      have d7 := HY6.out.c 7
      have d8 := HY6.out.c 8
      go_wp2_with fail
      refine (CU.out _ _ HI6.out).mono ?_
      rintro e7 w7 ⟨rfl, hb7⟩
      go_wp2
      go_ret
      exact ⟨rfl, by rw [HG.out]; exact HB6.out.trans (hb7.out.mono HGW6.out)⟩
end Go.Proofs.Ytljgpdghpkpffaa
