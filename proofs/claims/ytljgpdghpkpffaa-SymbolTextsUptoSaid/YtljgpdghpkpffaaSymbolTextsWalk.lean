/-
  SymbolTexts: the walk.
-/
import Derived.Test.YtljgpdghpkpffaaYG
set_option maxRecDepth 100000
namespace Go.Proofs.Ytljgpdghpkpffaa
open Go.RowKit Go.ChangeMaps
set_option maxHeartbeats 4000000 in
theorem walk_symbolTexts (z : Int) (d g mi pl pc pm cu e : ByteArray) (A : Option Addr) (n c : Nat) (is : List Itm) (w : World) (hz : -2147483648 ≤ z ∧ z ≤ 2147483647) (hs : ∀ k, k < 8 → (tx8 d g mi pl pc pm cu e k).size ≤ 1048576) (h1 : Its w A n is) :
    Calls Try.prog 4 #[.agg #[.int .i32 z, .string d, .string g, .string mi, .string pl, .string pc, .string pm, .string cu, .string e], .slice A n c] w fun e' w' => e' = .returned (.bool true) ∧ Below w.heap.size w w' := by
  have CG := Lib.hid (fun W => refGood18_c z d g mi pl pc pm cu e W hz fun k hk => Nat.le_trans (hs k hk) (by decide))
  have HT := Lib.hid (good_tx5 (z := z) (d := d) (g := g) (mi := mi) (pl := pl) (pc := pc) (pm := pm) (cu := cu) (e := e))
  have HX : Hid (BXS (w.alloc (.cells #[.int .i32 z, .string d, .string g, .string mi, .string pl, .string pc, .string pm, .string cu, .string e] 23)) w.heap.size z d g mi pl pc pm cu e) := Lib.hid (BX.new _ _ _)
  have hB : Below w.heap.size w (w.alloc (.cells #[.int .i32 z, .string d, .string g, .string mi, .string pl, .string pc, .string pm, .string cu, .string e] 23)) := (Below.refl _ _).alloc (Nat.le_refl _) _
  have HI1 := Lib.hid (h1.below hB)
  have HN1 := Lib.hid h1.2.1
  have HB := Lib.hid hB
  have HGW := Lib.hid hB.size
  clear hB h1
  go_enter Try.func4, Try.ntmps4
  go_upto_region 1 with fail
  generalize w.alloc (.cells #[.int .i32 z, .string d, .string g, .string mi, .string pl, .string pc, .string pm, .string cu, .string e] 23) = W0 at *
  generalize hG : w.heap.size = G at *
  have HG := Lib.hid hG
  clear hG
  have d0 := HX.out.c 0
  have d1 := HX.out.c 1
  have d2 := HX.out.c 2
  have d3 := HX.out.c 3
  have d4 := HX.out.c 4
  have d5 := HX.out.c 5
  have d6 := HX.out.c 6
  have d7 := HX.out.c 7
  have d8 := HX.out.c 8
  rcases hg : goodS z (tx8 d g mi pl pc pm cu e) with _ | _
  · rw [hg] at CG
    clear hg HT
    go_wp2_with fail
    refine (CG.out _).mono ?_
    rintro e1 w1 ⟨rfl, hb1⟩
    have HB1 := Lib.hid (HB.out.trans (hb1.out.mono HGW.out))
    have HGW1 := Lib.hid (Nat.le_trans HGW.out hb1.out.size)
    clear hb1
    clear d0 d1 d2 d3 d4 d5 d6 d7 d8
    go_wp2_with (first
      | (go_at_call 8; refine (answers18_c _).mono ?_; rintro ea wa ⟨rfl, hba⟩)
      | (with_reducible go_skip)
      | fail)
    go_ret
    exact ⟨rfl, by rw [HG.out]; exact HB1.out.trans (hba.out.mono HGW1.out)⟩
  · rw [hg] at CG
    have hsz := HT.out hg
    clear hg HT
    by_cases h100 : 100 < n
    · have g1 : decide ((100 : Int) < (n : Int)) = true := decide_eq_true (by omega)
      go_wp2_with fail
      refine (CG.out _).mono ?_
      rintro e1 w1 ⟨rfl, hb1⟩
      have HB1 := Lib.hid (HB.out.trans (hb1.out.mono HGW.out))
      have HGW1 := Lib.hid (Nat.le_trans HGW.out hb1.out.size)
      clear hb1
      clear d0 d1 d2 d3 d4 d5 d6 d7 d8
      go_wp2_with (first
        | (go_at_call 8; refine (answers18_c _).mono ?_; rintro ea wa ⟨rfl, hba⟩)
        | (with_reducible go_skip)
        | fail)
      go_ret
      exact ⟨rfl, by rw [HG.out]; exact HB1.out.trans (hba.out.mono HGW1.out)⟩
    · have g1 : decide ((100 : Int) < (n : Int)) = false := decide_eq_false (by omega)
      have CT := Lib.hid (fun W hW => symText_c z d g mi pl pc pm cu e A n c is W hW (by omega) hsz)
      have CM := Lib.hid (fun W hW => refMay_c A n c is W hW)
      have CR := Lib.hid (fun W hW hm => refText18_c z d g mi pl pc pm cu e A n c is W hW (by omega) hsz hm)
      clear hsz h100
      go_wp2_with fail
      refine (CG.out _).mono ?_
      rintro e1 w1 ⟨rfl, hb1⟩
      have HB1 := Lib.hid (HB.out.trans (hb1.out.mono HGW.out))
      have HGW1 := Lib.hid (Nat.le_trans HGW.out hb1.out.size)
      have HX1 := Lib.hid (HX.out.below hb1.out HX.out.lt)
      have HI2 := Lib.hid (HI1.out.below hb1.out)
      clear hb1 CG HX HI1
      clear d0 d1 d2 d3 d4 d5 d6 d7 d8
      have d0 := HX1.out.c 0
      have d1 := HX1.out.c 1
      have d2 := HX1.out.c 2
      have d3 := HX1.out.c 3
      have d4 := HX1.out.c 4
      have d5 := HX1.out.c 5
      have d6 := HX1.out.c 6
      have d7 := HX1.out.c 7
      have d8 := HX1.out.c 8
      rcases hm : is.all mayI with _ | _
      · rw [hm, if_neg (by decide), stz_nil] at CT
        rw [hm] at CM
        clear hm CR
        go_wp2_with fail
        refine (CT.out _ HI2.out).mono ?_
        rintro e2 w2 ⟨rfl, hb2⟩
        have HB2 := Lib.hid (HB1.out.trans (hb2.out.mono HGW1.out))
        have HGW2 := Lib.hid (Nat.le_trans HGW1.out hb2.out.size)
        have HI3 := Lib.hid (HI2.out.below hb2.out)
        clear hb2 CT HX1
        clear d0 d1 d2 d3 d4 d5 d6 d7 d8
        go_wp2_with fail
        refine (CM.out _ HI3.out).mono ?_
        rintro e3 w3 ⟨rfl, rfl⟩
        go_wp2_with (first
          | (go_at_call 8; refine (answers18_c _).mono ?_; rintro ea wa ⟨rfl, hba⟩)
          | (with_reducible go_skip)
          | fail)
        go_ret
        exact ⟨rfl, by rw [HG.out]; exact HB2.out.trans (hba.out.mono HGW2.out)⟩
      · rw [hm, if_pos rfl] at CT
        rw [hm] at CM
        have CR2 := Lib.hid (fun W hW => CR.out W hW hm)
        clear hm CR
        generalize stz (txI (tx5 mi pl pc pm cu) is) = TX at *
        have gt : (TX.toList == TX.toList) = true := by simp
        go_wp2_with fail
        refine (CT.out _ HI2.out).mono ?_
        rintro e2 w2 ⟨rfl, hb2⟩
        have HB2 := Lib.hid (HB1.out.trans (hb2.out.mono HGW1.out))
        have HGW2 := Lib.hid (Nat.le_trans HGW1.out hb2.out.size)
        have HI3 := Lib.hid (HI2.out.below hb2.out)
        have HX2 := Lib.hid (HX1.out.below hb2.out HX1.out.lt)
        clear hb2 CT HX1
        clear d0 d1 d2 d3 d4 d5 d6 d7 d8
        go_wp2_with fail
        refine (CM.out _ HI3.out).mono ?_
        rintro e3 w3 ⟨rfl, rfl⟩
        go_wp2_with fail
        refine (answers18_c _).mono ?_
        rintro ea wa ⟨rfl, hba⟩
        have HB3 := Lib.hid (HB2.out.trans (hba.out.mono HGW2.out))
        have HGW3 := Lib.hid (Nat.le_trans HGW2.out hba.out.size)
        have HI4 := Lib.hid (HI3.out.below hba.out)
        have HX3 := Lib.hid (HX2.out.below hba.out HX2.out.lt)
        clear hba HX2 HI3
        have d0 := HX3.out.c 0
        have d1 := HX3.out.c 1
        have d2 := HX3.out.c 2
        have d3 := HX3.out.c 3
        have d4 := HX3.out.c 4
        have d5 := HX3.out.c 5
        have d6 := HX3.out.c 6
        have d7 := HX3.out.c 7
        have d8 := HX3.out.c 8
        go_wp2_with fail
        refine (CR2.out _ HI4.out).mono ?_
        rintro er wr ⟨rfl, hbr⟩
        go_wp2
        go_ret
        exact ⟨rfl, by rw [HG.out]; exact HB3.out.trans (hbr.out.mono HGW3.out)⟩
end Go.Proofs.Ytljgpdghpkpffaa
