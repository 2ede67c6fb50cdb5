/-
  NatOwn: the walk.
-/
import Derived.Test.YtimpjodbfflakaaAns2
import Derived.Test.YtimpjodbfflakaaOwn
namespace Go.Proofs.Ytimpjodbfflakaa
open Go.RowKit
theorem sub_any (A A' : Option Addr) (n c n' c' : Nat) (xs ys : List Nat) (w : World) (h : Limbs w A n xs) (h' : Limbs w A' n' ys) (gx : ∀ x ∈ xs, x < 1000000000) (gy : ∀ y ∈ ys, y < 1000000000) (hnn : n ≤ 900000000) :
    Calls Try.prog 22 #[.slice A n c, .slice A' n' c'] w fun e w' => ∃ v, e = .returned v ∧ Below w.heap.size w w' := by
  rcases Nat.lt_or_ge (val 1000000000 xs) (val 1000000000 ys) with ho | ho
  · exact (sub_less A A' n c n' c' xs ys w h h' gx gy ho).mono fun e w' ⟨h1, h2⟩ => ⟨_, h1, h2⟩
  · exact (sub_geq A A' n c n' c' xs ys w h h' gx gy ho hnn).mono fun e w' ⟨_, _, _, h1, _, h2⟩ => ⟨_, h1, h2⟩
set_option maxHeartbeats 1000000 in
set_option maxRecDepth 100000 in
theorem walk_natOwn (a0 : Option Addr) (n0 c0 : Nat) (x0 : List Nat) (a1 : Option Addr) (n1 c1 : Nat) (x1 : List Nat) (w : World) (h0 : Limbs w a0 n0 x0) (h1 : Limbs w a1 n1 x1) :
    Calls Try.prog 8 #[.slice a0 n0 c0, .slice a1 n1 c1] w fun e w' => e = .returned (.bool true) ∧ Below w.heap.size w w' := by
  have CG := good2_c a0 a1 n0 c0 n1 c1 x0 x1 w h0 h1
  have B := Lib.hid ((Below.refl w.heap.size w).alloc (Nat.le_refl _) (.cells #[.slice a0 n0 c0, .slice a1 n1 c1] 22))
  have H0 := Lib.hid h0
  have H1 := Lib.hid h1
  clear h0 h1
  rcases hg : (Arg.mk a0 n0 c0 x0).fine && (Arg.mk a1 n1 c1 x1).fine with _ | _
  · rw [hg] at CG
    have HCG := Lib.hid CG
    clear CG hg
    go_enter Try.func8, Try.ntmps8
    go_wp2_with fail
    refine (HCG.out).mono ?_
    rintro e W ⟨rfl, rfl⟩
    clear HCG
    go_wp2_with fail
    refine (answers_c _).mono ?_
    rintro e w1 ⟨rfl, hb⟩
    replace B := Lib.hid (B.out.trans (hb.mono B.out.size))
    clear hb
    go_wp2
    go_ret
    exact ⟨rfl, B.out⟩
  · rw [hg] at CG
    have HCG := Lib.hid CG
    simp only [Bool.and_eq_true] at hg
    have F0 := Arg.fine_true hg.1
    have F1 := Arg.fine_true hg.2
    simp only at F0 F1
    have hn0 := F0.1
    have G0 := Lib.hid F0.2
    have hn1 := F1.1
    have G1 := Lib.hid F1.2
    clear CG hg F0 F1
    generalize hW : w.alloc (.cells #[.slice a0 n0 c0, .slice a1 n1 c1] 22) = W at HCG B
    have HW := Lib.hid hW
    have hWsz := Lib.hid B.out.size
    clear hW
    go_enter Try.func8, Try.ntmps8
    go_wp2_with fail
    have HH := HCG.out
    rw [← HW.out] at HH
    refine (HH).mono ?_
    rintro e W' ⟨rfl, rfl⟩
    rw [HW.out]
    clear HCG HH HW
    have A0 := Lib.hid ((H0.out.below B.out).below ((Below.refl W.heap.size W).alloc (Nat.le_refl _) (.cells #[] 37)))
    go_wp2_with (at_builtin; go_must (refine wpList_app_limbs rfl (.tmp 17) (.tmp 18) _ rfl Try.underlying22 W.heap.size _ 0 [] rfl (own_empty W _) a0 n0 c0 x0 rfl A0.out (by omega) ((Below.refl W.heap.size W).alloc (Nat.le_refl _) _) (by simp) ?_))
    intro v1 W1 ho1 hb1
    have hs1 := hb1.out.size
    go_wp2_with (at_builtin; go_must (refine wpList_app_limbs rfl (.tmp 19) (.tmp 20) _ rfl Try.underlying22 W.heap.size v1 n0 x0 rfl (ho1.out.alloc _) _ 2 2 [7, 7] rfl (limbs_new2 W1 7 7 (by omega) (by omega) 7 7 rfl rfl) (by omega) (hb1.out.alloc hs1 _) (by simp; omega) ?_))
    intro v2 W2 ho2 hb2
    obtain ⟨gx, cx, rfl, hgx0, hgx, hcx, hcm⟩ := own_pos ho2.out (by omega)
    replace B := Lib.hid (B.out.trans (hb2.out.mono B.out.size))
    have hs2 := hb2.out.size
    clear ho1 hb1 hb2 A0
    have A1 := Lib.hid ((H1.out.below B.out).below ((Below.refl W2.heap.size W2).alloc (Nat.le_refl _) (.cells #[] 37)))
    go_wp2_with (at_builtin; go_must (refine wpList_app_limbs rfl (.tmp 22) (.tmp 23) _ rfl Try.underlying22 W2.heap.size _ 0 [] rfl (own_empty W2 _) a1 n1 c1 x1 rfl A1.out (by omega) ((Below.refl W2.heap.size W2).alloc (Nat.le_refl _) _) (by simp) ?_))
    intro v3 W3 ho3 hb3
    have hs3 := hb3.out.size
    go_wp2_with (at_builtin; go_must (refine wpList_app_limbs rfl (.tmp 24) (.tmp 25) _ rfl Try.underlying22 W2.heap.size v3 n1 x1 rfl (ho3.out.alloc _) _ 2 2 [8, 8] rfl (limbs_new2 W3 8 8 (by omega) (by omega) 8 8 rfl rfl) (by omega) (hb3.out.alloc hs3 _) (by simp; omega) ?_))
    intro v4 W4 ho4 hb4
    obtain ⟨gy, cy, rfl, hgy0, hgy, hcy, hcm'⟩ := own_pos ho4.out (by omega)
    have OX := Lib.hid (own_kept ho2.out hb4.out rfl)
    have OY := Lib.hid ho4.out
    replace B := Lib.hid (B.out.trans (hb4.out.mono B.out.size))
    clear ho2 ho3 hb3 hb4 A1 ho4
    have LX := Lib.hid (own_prefix OX.out H0.out.len (by omega) H0.out.2.2)
    have LY := Lib.hid (own_prefix OY.out H1.out.len (by omega) H1.out.2.2)
    go_wp2_with fail
    have q1 : n0 ≤ cx := by omega
    have q2 : n1 ≤ cy := by omega
    have q3 : (n0 : Int) ≤ (cx : Int) := by omega
    have q4 : (n1 : Int) ≤ (cy : Int) := by omega
    go_still_tail 8, (by kernel_rfl)
    change wpList _ _ _ _ _ W4.drew
    go_wp2_with fail
    refine (add_c (some ⟨gx, 0, none⟩) (some ⟨gy, 0, none⟩) n0 cx n1 cy x0 x1 W4.drew LX.out LY.out G0.out G1.out (by omega) (by omega)).mono ?_
    rintro e W5 ⟨As, ms, cs, rfl, ho, hb⟩
    have HS := Lib.hid ho
    have hB4 := Lib.hid hb
    replace B := Lib.hid (B.out.drew.trans (hb.mono B.out.size))
    replace OX := Lib.hid (own_kept (w := W4.drew) OX.out hb rfl)
    replace OY := Lib.hid (own_kept (w := W4.drew) OY.out hb rfl)
    have hsz4 : W4.heap.size ≤ W5.heap.size := hb.size
    have hsb := Lib.hid fun k hk => (ho.1.lt k hk).2
    clear ho hb LX LY hB4
    have LX := Lib.hid (own_prefix OX.out H0.out.len (by omega) H0.out.2.2)
    have LY := Lib.hid (own_prefix OY.out H1.out.len (by omega) H1.out.2.2)
    go_wp2_with fail
    refine (trim_c (some ⟨gx, 0, none⟩) n0 cx x0 W5 LX.out (by omega)).mono ?_
    rintro e W6 ⟨At, mt, ct, rfl, ho, hb⟩
    have HT := Lib.hid ho
    replace HS := Lib.hid (HS.out.keep hb rfl)
    replace B := Lib.hid (B.out.trans (hb.mono B.out.size))
    replace OX := Lib.hid (own_kept OX.out hb rfl)
    replace OY := Lib.hid (own_kept OY.out hb rfl)
    have hsz5 : W5.heap.size ≤ W6.heap.size := hb.size
    clear ho hb LX LY
    have LX := Lib.hid (own_prefix OX.out H0.out.len (by omega) H0.out.2.2)
    have LY := Lib.hid (own_prefix OY.out H1.out.len (by omega) H1.out.2.2)
    go_wp2_with fail
    go_still_tail 8, (by kernel_rfl)
    change wpList _ _ _ _ _ W6.drew
    go_wp2_with fail
    refine (sub_any (some ⟨gx, 0, none⟩) (some ⟨gy, 0, none⟩) n0 cx n1 cy x0 x1 W6.drew LX.out LY.out G0.out G1.out (by omega)).mono ?_
    rintro e W7 ⟨vd, rfl, hb⟩
    replace HS := Lib.hid (OwnS.keep (w := W6.drew) HS.out hb rfl)
    replace HT := Lib.hid (OwnS.keep (w := W6.drew) HT.out hb rfl)
    replace B := Lib.hid (B.out.drew.trans (hb.mono B.out.size))
    replace OX := Lib.hid (own_kept (w := W6.drew) OX.out hb rfl)
    replace OY := Lib.hid (own_kept (w := W6.drew) OY.out hb rfl)
    have hsz6 : W6.heap.size ≤ W7.heap.size := hb.size
    clear hb LX LY
    go_wp2_with fail
    have hs0 := HS.out.1
    have ht0 := HT.out.1
    have hms := HS.out.2.1
    have hmt := HT.out.2.1
    generalize digs 1000000000 (val 1000000000 x0 + val 1000000000 x1) = zs0 at hs0
    generalize trim x0 = ts0 at ht0
    have HS0 := Lib.hid hs0
    have HT0 := Lib.hid ht0
    clear hs0 ht0 HS HT
    go_loopw [9] (fun i wr => ∃ (k : Nat) (zs : List Nat), k ≤ ms ∧ i = .int .i64 (k : Int) ∧ wr.ownsRow W4.heap.size 37 1 (.slice As ms cs) ms (u32s zs) ∧ wr.ownsRow W5.heap.size 37 1 (.slice At mt ct) mt (u32s ts0) ∧ Below W4.heap.size W7 wr) (fun i _ => ms - (intOf i).toNat)
    case atStart => exact ⟨0, zs0, by omega, rfl, HS0.out, HT0.out, Below.refl _ _⟩
    case round =>
      obtain ⟨k, zs, hk, rfl, hz0, hr0, hbw0⟩ := hrel
      have HZ := Lib.hid hz0
      have HR := Lib.hid hr0
      have HBW := Lib.hid hbw0
      clear hz0 hr0 hbw0
      by_cases hlt : k < ms
      · obtain ⟨gs, vo, hA, hgs, hcell, hfr, hob⟩ := own_round HZ.out hlt
        subst hA
        have hg5 := hsb.out gs hob
        go_wp2
        go_roundw
        case rel =>
          refine ⟨k + 1, zs.set k 5, by omega, by go_num, ?_, ownsRow_setCell_below HR.out hg5 _, HBW.out.setCell hgs _⟩
          rw [u32s_set5]
          exact (HZ.out.stored k _).1
        case measure => simp [intOf]; omega
      · go_wp2_with fail
        have HR0 := Lib.hid HR.out
        have HBW0 := Lib.hid HBW.out
        clear HZ HR HBW
        obtain ⟨W8, hW8⟩ : ∃ W8 : World, W8 = wr := ⟨_, rfl⟩
        rw [← hW8] at HR0 HBW0
        subst hW8
        go_loopw [10] (fun i wr => ∃ (k : Nat) (zs : List Nat), k ≤ mt ∧ i = .int .i64 (k : Int) ∧ wr.ownsRow W5.heap.size 37 1 (.slice At mt ct) mt (u32s zs) ∧ Below W4.heap.size W7 wr) (fun i _ => mt - (intOf i).toNat)
        case atStart => exact ⟨0, ts0, by omega, rfl, HR0.out, HBW0.out⟩
        case round =>
          obtain ⟨j, zs, hj, rfl, hz0, hbw0⟩ := hrel
          have HZ := Lib.hid hz0
          have HBW := Lib.hid hbw0
          clear hz0 hbw0
          by_cases hlt2 : j < mt
          · obtain ⟨gs, vo, hA, hgs, hcell, hfr, hob⟩ := own_round HZ.out hlt2
            subst hA
            go_wp2
            go_roundw
            case rel =>
              refine ⟨j + 1, zs.set j 5, by omega, by go_num, ?_, HBW.out.setCell (Nat.le_trans hsz4 hgs) _⟩
              rw [u32s_set5]
              exact (HZ.out.stored j _).1
            case measure => simp [intOf]; omega
          · have OX8 := Lib.hid (own_kept_lt OX.out HBW.out (fun k hk => by
              have e : gx = k := by simpa [Value.ownBlock] using hk
              omega))
            have OY8 := Lib.hid (own_kept_lt OY.out HBW.out (fun k hk => by
              have e : gy = k := by simpa [Value.ownBlock] using hk
              omega))
            have B8 := Lib.hid (B.out.trans (HBW.out.mono (by have := hWsz.out; omega)))
            clear OX OY B HZ HBW HR0 HBW0 HS0 HT0
            go_wp2_with fail
            refine (answers_c _).mono ?_
            rintro e W9 ⟨rfl, hb⟩
            replace B8 := Lib.hid (B8.out.trans (hb.mono B8.out.size))
            replace OX8 := Lib.hid (own_kept OX8.out hb rfl)
            replace OY8 := Lib.hid (own_kept OY8.out hb rfl)
            clear hb
            go_wp2_with fail
            refine (same_c (some ⟨gx, 0, none⟩) a0 n0 cx n0 c0 x0 x0 W9 (own_prefix OX8.out H0.out.len (by omega) H0.out.2.2) (H0.out.below B8.out)).mono ?_
            rw [decide_eq_true rfl]
            rintro e W10 ⟨rfl, hb⟩
            replace B8 := Lib.hid (B8.out.trans (hb.mono B8.out.size))
            replace OX8 := Lib.hid (own_kept OX8.out hb rfl)
            replace OY8 := Lib.hid (own_kept OY8.out hb rfl)
            clear hb
            go_wp2_with fail
            refine (same_c (some ⟨gy, 0, none⟩) a1 n1 cy n1 c1 x1 x1 W10 (own_prefix OY8.out H1.out.len (by omega) H1.out.2.2) (H1.out.below B8.out)).mono ?_
            rw [decide_eq_true rfl]
            rintro e W11 ⟨rfl, hb⟩
            replace B8 := Lib.hid (B8.out.trans (hb.mono B8.out.size))
            replace OX8 := Lib.hid (own_kept OX8.out hb rfl)
            replace OY8 := Lib.hid (own_kept OY8.out hb rfl)
            clear hb
            have hc7 := own_cell_behind OX8.out 0 7 rfl
            have hc8 := own_cell_behind OY8.out 1 8 rfl
            rw [H0.out.len, Nat.add_zero] at hc7
            rw [H1.out.len] at hc8
            have hc7' : W11.cell? ⟨gx, n0, none⟩ = some (.int .u32 7) := hc7
            have hc8' : W11.cell? ⟨gy, n1 + 1, none⟩ = some (.int .u32 8) := hc8
            clear hc7 hc8
            go_wp2
            go_ret
            exact ⟨rfl, B8.out⟩
end Go.Proofs.Ytimpjodbfflakaa
