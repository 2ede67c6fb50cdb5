/-
  DivOwn: the walk.
-/
import Derived.Test.YtmfcjjjkndfojaaGood03
import Derived.Test.YtmfcjjjkndfojaaAns03
import Derived.Test.YtmfcjjjkndfojaaRefG
import Derived.Test.YtmfcjjjkndfojaaRefH
import Derived.Test.YtmfcjjjkndfojaaRefI
import Derived.Test.YtmfcjjjkndfojaaOurs
import Derived.Deep.RegionWith
import Derived.Deep.DeepCutAuto
namespace Go.Proofs.Ytmfcjjjkndfojaa
open Go.RowKit
/-- What the quotient's line leaves: two rows of the call's own. -/
def DivOwnMid (W4 : World) (s7 s8 s9 : Value) (wx : World) : Prop :=
  ∃ As ms cs At mt ct ok, s7 = .slice As ms cs ∧ s8 = .slice At mt ct ∧ s9 = .bool ok ∧ Ours wx W4.heap.size (.slice As ms cs) ms ∧ Ours wx W4.heap.size (.slice At mt ct) mt ∧ Below W4.heap.size W4 wx ∧ ms ≤ 1000000000 ∧ mt ≤ 1000000000
theorem divOwn_mid {W4 W5 : World} {As At : Option Addr} {ms cs mt ct : Nat} {ok : Bool} (ho5 : Ours W5 W4.drew.heap.size (.slice As ms cs) ms) (ho6 : Ours W5 W4.drew.heap.size (.slice At mt ct) mt) (hb5 : Below W4.drew.heap.size W4.drew W5) (hm : ms ≤ 1000000000 ∧ mt ≤ 1000000000) :
    DivOwnMid W4 (.slice As ms cs) (.slice At mt ct) (.bool ok) W5 := ⟨As, ms, cs, At, mt, ct, ok, rfl, rfl, rfl, ho5, ho6, (Below.refl _ _).drew.trans hb5, hm.1, hm.2⟩
theorem divMod_any (A A' : Option Addr) (n c n' c' : Nat) (xs ys : List Nat) (w : World) (h : Limbs w A n xs) (h' : Limbs w A' n' ys) (gx : ∀ x ∈ xs, x < 1000000000) (gy : ∀ y ∈ ys, y < 1000000000)
    (hn : n ≤ 100000000) (hn' : n' ≤ 100000000) :
    Calls Try.prog 10 #[.slice A n c, .slice A' n' c'] w fun e w' => ∃ A1 m1 c1 A2 m2 c2 ok, e = .returned (.tuple #[.slice A1 m1 c1, .slice A2 m2 c2, .bool ok]) ∧
      Ours w' w.heap.size (.slice A1 m1 c1) m1 ∧ Ours w' w.heap.size (.slice A2 m2 c2) m2 ∧ Below w.heap.size w w' ∧ m1 ≤ 1000000000 ∧ m2 ≤ 1000000000 := by
  rcases Nat.eq_zero_or_pos (val 1000000000 ys) with hz | hz
  · exact (divMod_zero A A' n c n' c' xs ys w h h' gy hn hn' hz).mono fun e w' ⟨h1, h2⟩ => ⟨none, 0, 0, none, 0, 0, false, h1, (ownS_nil _ _).ours (Nat.le_refl _), (ownS_nil _ _).ours (Nat.le_refl _), h2, by omega, by omega⟩
  · exact (divMod_c A A' n c n' c' xs ys w h h' gx gy hn hn' hz).mono fun e w' ⟨A1, m1, c1, A2, m2, c2, h1, h2, h3, h4⟩ => ⟨A1, m1, c1, A2, m2, c2, true, h1, h2.ours (Nat.le_refl _), h3.ours (Nat.le_refl _), h4, h2.2.1, h3.2.1⟩
set_option maxHeartbeats 2000000 in
set_option maxRecDepth 100000 in
theorem walk_divOwn (a0 : Option Addr) (n0 c0 : Nat) (x0 : List Nat) (a1 : Option Addr) (n1 c1 : Nat) (x1 : List Nat) (w : World) (h0 : Limbs w a0 n0 x0) (h1 : Limbs w a1 n1 x1) :
    Calls Try.prog 6 #[.slice a0 n0 c0, .slice a1 n1 c1] w fun e w' => e = .returned (.bool true) ∧ Below w.heap.size w w' := by
  have B := Lib.hid (Below.refl w.heap.size w)
  have H0 := Lib.hid h0
  clear h0
  have H1 := Lib.hid h1
  clear h1
  have CG := good03_2_c a0 a1 n0 c0 n1 c1 x0 x1 w H0.out H1.out
  try simp only [World.size_alloc] at CG
  have hbA := (Below.refl (w).heap.size w).alloc (Nat.le_refl _) (.cells #[.slice a0 n0 c0, .slice a1 n1 c1] 22)
  replace H0 := Lib.hid (H0.out.below hbA)
  replace H1 := Lib.hid (H1.out.below hbA)
  replace B := Lib.hid (B.out.trans (hbA.mono B.out.size))
  clear hbA
  rcases hg : (Arg.mk a0 n0 c0 x0).fineL 20 && (Arg.mk a1 n1 c1 x1).fineL 20 with _ | _
  · rw [hg] at CG
    have HCG := Lib.hid CG
    clear CG hg
    go_enter Try.func6, Try.ntmps6
    go_wp2_with fail
    refine (HCG.out).mono ?_
    rintro e W ⟨rfl, rfl⟩
    clear HCG
    go_wp2_with fail
    refine (answers03_c _).mono ?_
    rintro e w1 ⟨rfl, hb⟩
    replace H0 := Lib.hid (H0.out.below hb)
    replace H1 := Lib.hid (H1.out.below hb)
    replace B := Lib.hid (B.out.trans (hb.mono B.out.size))
    clear hb 
    go_wp2
    go_ret
    exact ⟨rfl, B.out⟩
  · rw [hg] at CG
    have HCG := Lib.hid CG
    clear CG
    try simp only [Bool.and_eq_true] at hg
    have F0 := Arg.fineL_true hg.1
    simp only at F0
    have hn0 := F0.1
    have G0 := Lib.hid F0.2
    have V0 := Lib.hid (limbs_lt F0.2 (m := 20) (by rw [H0.out.len]; exact hn0))
    have F1 := Arg.fineL_true hg.2
    simp only at F1
    have hn1 := F1.1
    have G1 := Lib.hid F1.2
    have V1 := Lib.hid (limbs_lt F1.2 (m := 20) (by rw [H1.out.len]; exact hn1))
    clear hg F0 F1
    go_enter Try.func6, Try.ntmps6
    go_wp2_with fail
    refine (HCG.out).mono ?_
    rintro e W ⟨rfl, rfl⟩
    clear HCG
    generalize hW : (w.alloc (.cells #[.slice a0 n0 c0, .slice a1 n1 c1] 22)) = W at B H0 H1
    have hWsz := Lib.hid B.out.size
    clear hW
    have A0 := Lib.hid (H0.out.below ((Below.refl W.heap.size W).alloc (Nat.le_refl _) (.cells #[] 32)))
    go_wp2_with (at_builtin; go_must (refine wpList_app_limbs rfl (.tmp 22) (.tmp 23) _ rfl Try.underlying22 W.heap.size _ 0 [] rfl (own_empty W _) a0 n0 c0 x0 rfl A0.out (by omega) ((Below.refl W.heap.size W).alloc (Nat.le_refl _) _) (by simp) ?_))
    intro v1 W1 ho1 hb1
    have hs1 := hb1.out.size
    go_wp2_with (at_builtin; go_must (refine wpList_app_limbs rfl (.tmp 24) (.tmp 25) _ rfl Try.underlying22 W.heap.size v1 n0 x0 rfl (ho1.out.alloc _) _ 1 1 [7] rfl (limbs_new W1 7 (by omega) 7 rfl) (by omega) (hb1.out.alloc hs1 _) (by simp; omega) ?_))
    intro v2 W2 ho2 hb2
    obtain ⟨gx, cx, rfl, hgx0, hgx, hcx, hcm⟩ := own_pos ho2.out (by omega)
    replace B := Lib.hid (B.out.trans (hb2.out.mono B.out.size))
    replace H1 := Lib.hid (H1.out.below hb2.out)
    replace H0 := Lib.hid (H0.out.below hb2.out)
    have hs2 := hb2.out.size
    clear ho1 hb1 hb2 A0
    have A1 := Lib.hid (H1.out.below ((Below.refl W2.heap.size W2).alloc (Nat.le_refl _) (.cells #[] 32)))
    go_wp2_with (at_builtin; go_must (refine wpList_app_limbs rfl (.tmp 27) (.tmp 28) _ rfl Try.underlying22 W2.heap.size _ 0 [] rfl (own_empty W2 _) a1 n1 c1 x1 rfl A1.out (by omega) ((Below.refl W2.heap.size W2).alloc (Nat.le_refl _) _) (by simp) ?_))
    intro v3 W3 ho3 hb3
    have hs3 := hb3.out.size
    go_wp2_with (at_builtin; go_must (refine wpList_app_limbs rfl (.tmp 29) (.tmp 30) _ rfl Try.underlying22 W2.heap.size v3 n1 x1 rfl (ho3.out.alloc _) _ 1 1 [8] rfl (limbs_new W3 8 (by omega) 8 rfl) (by omega) (hb3.out.alloc hs3 _) (by simp; omega) ?_))
    intro v4 W4 ho4 hb4
    obtain ⟨gy, cy, rfl, hgy0, hgy, hcy, hcm'⟩ := own_pos ho4.out (by omega)
    have OX := Lib.hid (own_kept ho2.out hb4.out rfl)
    have OY := Lib.hid ho4.out
    replace B := Lib.hid (B.out.trans (hb4.out.mono B.out.size))
    replace H1 := Lib.hid (H1.out.below hb4.out)
    replace H0 := Lib.hid (H0.out.below hb4.out)
    have hs4 := hb4.out.size
    clear ho2 ho3 hb3 hb4 A1 ho4
    have LX := Lib.hid (own_prefix OX.out H0.out.len (by omega) H0.out.2.2)
    have LY := Lib.hid (own_prefix OY.out H1.out.len (by omega) H1.out.2.2)
    have MC := Lib.hid (divMod_any (some ⟨gx, 0, none⟩) (some ⟨gy, 0, none⟩) n0 cx n1 cy x0 x1 W4.drew LX.out LY.out G0.out G1.out (by omega) (by omega))
    clear LX LY
    go_wp2_with fail
    have q1 : n0 ≤ cx := by omega
    have q2 : n1 ≤ cy := by omega
    have q3 : (n0 : Int) ≤ (cx : Int) := by omega
    have q4 : (n1 : Int) ≤ (cy : Int) := by omega
    go_cut [7, 8, 9] (DivOwnMid W4)
    case first =>
      go_region_with (go_at_call 10; refine MC.out.mono ?_; rintro e W5 ⟨As, ms, cs, At, mt, ct, ok, rfl, ho5, ho6, hb5, hm5⟩)
      all_goals
        go_wp2_with fail
        go_meet
        exact divOwn_mid ho5 ho6 hb5 hm5
    case rest =>
      obtain ⟨As, ms, cs, At, mt, ct, ok, rfl, rfl, rfl, hs0, ht0, hbc0, hmsb, hmtb⟩ := hcut
      have HS0 := Lib.hid hs0
      have HT0 := Lib.hid ht0
      have HBC := Lib.hid hbc0
      have hsc := hbc0.size
      have hws : W.heap.size ≤ W4.heap.size := by omega
      clear hs0 ht0 hbc0 MC
      have SC := Lib.hid (divSmall_c (some ⟨gx, 0, none⟩) n0 cx x0 3 wc (own_prefix (own_kept OX.out HBC.out rfl) H0.out.len (by omega) H0.out.2.2) G0.out (by omega) (by omega) (by omega))
      go_wp2_with fail
      refine SC.out.mono ?_
      rintro e W6 ⟨Au, mu, cu, rfl, ho, hb⟩
      replace HS0 := Lib.hid (HS0.out.keep hb rfl)
      replace HT0 := Lib.hid (HT0.out.keep hb rfl)
      have HU0 := Lib.hid (ho.ours (B := W4.heap.size) hsc)
      replace HBC := Lib.hid (HBC.out.trans (hb.mono hsc))
      have mub := ho.2.1
      clear ho hb SC
      go_wp2_with fail
      go_loopw [13] (fun i wr => ∃ (k : Nat), k ≤ ms ∧ i = .int .i64 (k : Int) ∧ Hid (Ours wr W4.heap.size (.slice As ms cs) ms) ∧ Hid (Ours wr W4.heap.size (.slice At mt ct) mt) ∧ Hid (Ours wr W4.heap.size (.slice Au mu cu) mu) ∧ Hid (Below W4.heap.size W4 wr)) (fun i _ => ms - (intOf i).toNat)
      case atStart => exact ⟨0, by omega, rfl, HS0, HT0, HU0, HBC⟩
      case round =>
        clear HS0 HT0 HU0 HBC
        obtain ⟨k, hk, rfl, HS0, HT0, HU0, HBC⟩ := hrel
        by_cases hlt : k < ms
        · obtain ⟨gs, vo, hA, hgs, hcell, hfr⟩ := HS0.out.round hlt
          subst hA
          go_wp2
          go_roundw
          case rel => exact ⟨k + 1, by omega, by go_num, Lib.hid (HS0.out.setCell _ _ _), Lib.hid (HT0.out.setCell _ _ _), Lib.hid (HU0.out.setCell _ _ _), Lib.hid (HBC.out.setCell hgs _)⟩
          case measure => simp [intOf]; omega
        · obtain rfl : ms = k := by omega
          go_wp2_with fail
          obtain ⟨Wn1, hWn1⟩ : ∃ W' : World, W' = wr := ⟨_, rfl⟩
          rw [← hWn1] at HS0 HT0 HU0 HBC
          subst hWn1
          go_loopw [14] (fun i wr => ∃ (k : Nat), k ≤ mt ∧ i = .int .i64 (k : Int) ∧ Hid (Ours wr W4.heap.size (.slice As ms cs) ms) ∧ Hid (Ours wr W4.heap.size (.slice At mt ct) mt) ∧ Hid (Ours wr W4.heap.size (.slice Au mu cu) mu) ∧ Hid (Below W4.heap.size W4 wr)) (fun i _ => mt - (intOf i).toNat)
          case atStart => exact ⟨0, by omega, rfl, HS0, HT0, HU0, HBC⟩
          case round =>
            clear HS0 HT0 HU0 HBC
            obtain ⟨k, hk, rfl, HS0, HT0, HU0, HBC⟩ := hrel
            by_cases hlt : k < mt
            · obtain ⟨gs, vo, hA, hgs, hcell, hfr⟩ := HT0.out.round hlt
              subst hA
              go_wp2
              go_roundw
              case rel => exact ⟨k + 1, by omega, by go_num, Lib.hid (HS0.out.setCell _ _ _), Lib.hid (HT0.out.setCell _ _ _), Lib.hid (HU0.out.setCell _ _ _), Lib.hid (HBC.out.setCell hgs _)⟩
              case measure => simp [intOf]; omega
            · obtain rfl : mt = k := by omega
              go_wp2_with fail
              obtain ⟨Wn2, hWn2⟩ : ∃ W' : World, W' = wr := ⟨_, rfl⟩
              rw [← hWn2] at HS0 HT0 HU0 HBC
              subst hWn2
              go_loopw [15] (fun i wr => ∃ (k : Nat), k ≤ mu ∧ i = .int .i64 (k : Int) ∧ Hid (Ours wr W4.heap.size (.slice As ms cs) ms) ∧ Hid (Ours wr W4.heap.size (.slice At mt ct) mt) ∧ Hid (Ours wr W4.heap.size (.slice Au mu cu) mu) ∧ Hid (Below W4.heap.size W4 wr)) (fun i _ => mu - (intOf i).toNat)
              case atStart => exact ⟨0, by omega, rfl, HS0, HT0, HU0, HBC⟩
              case round =>
                clear HS0 HT0 HU0 HBC
                obtain ⟨k, hk, rfl, HS0, HT0, HU0, HBC⟩ := hrel
                by_cases hlt : k < mu
                · obtain ⟨gs, vo, hA, hgs, hcell, hfr⟩ := HU0.out.round hlt
                  subst hA
                  go_wp2
                  go_roundw
                  case rel => exact ⟨k + 1, by omega, by go_num, Lib.hid (HS0.out.setCell _ _ _), Lib.hid (HT0.out.setCell _ _ _), Lib.hid (HU0.out.setCell _ _ _), Lib.hid (HBC.out.setCell hgs _)⟩
                  case measure => simp [intOf]; omega
                · obtain rfl : mu = k := by omega
                  go_wp2_with fail
                  replace OX := Lib.hid (own_kept OX.out HBC.out rfl)
                  replace OY := Lib.hid (own_kept OY.out HBC.out rfl)
                  replace B := Lib.hid (B.out.trans (HBC.out.mono B.out.size))
                  replace H0 := Lib.hid (H0.out.below HBC.out)
                  replace H1 := Lib.hid (H1.out.below HBC.out)
                  clear HS0 HT0 HU0 HBC
                  refine (answers03_c _).mono ?_
                  rintro e W9 ⟨rfl, hb⟩
                  replace B := Lib.hid (B.out.trans (hb.mono B.out.size))
                  replace OX := Lib.hid (own_kept OX.out hb rfl)
                  replace OY := Lib.hid (own_kept OY.out hb rfl)
                  replace H0 := Lib.hid (H0.out.below hb)
                  replace H1 := Lib.hid (H1.out.below hb)
                  clear hb
                  go_wp2_with fail
                  refine (same_c (some ⟨gx, 0, none⟩) a0 n0 cx n0 c0 x0 x0 W9 (own_prefix OX.out H0.out.len (by omega) H0.out.2.2) H0.out).mono ?_
                  rw [decide_eq_true rfl]
                  rintro e W10 ⟨rfl, hb⟩
                  replace B := Lib.hid (B.out.trans (hb.mono B.out.size))
                  replace OX := Lib.hid (own_kept OX.out hb rfl)
                  replace OY := Lib.hid (own_kept OY.out hb rfl)
                  replace H0 := Lib.hid (H0.out.below hb)
                  replace H1 := Lib.hid (H1.out.below hb)
                  clear hb
                  go_wp2_with fail
                  refine (same_c (some ⟨gy, 0, none⟩) a1 n1 cy n1 c1 x1 x1 W10 (own_prefix OY.out H1.out.len (by omega) H1.out.2.2) H1.out).mono ?_
                  rw [decide_eq_true rfl]
                  rintro e W11 ⟨rfl, hb⟩
                  replace B := Lib.hid (B.out.trans (hb.mono B.out.size))
                  replace OX := Lib.hid (own_kept OX.out hb rfl)
                  replace OY := Lib.hid (own_kept OY.out hb rfl)
                  clear hb
                  have hc7 := own_cell_behind OX.out 0 7 rfl
                  have hc8 := own_cell_behind OY.out 0 8 rfl
                  rw [H0.out.len, Nat.add_zero] at hc7
                  rw [H1.out.len, Nat.add_zero] at hc8
                  have hc7' : W11.cell? ⟨gx, n0, none⟩ = some (.int .u32 7) := hc7
                  have hc8' : W11.cell? ⟨gy, n1, none⟩ = some (.int .u32 8) := hc8
                  clear hc7 hc8
                  go_wp2
                  go_ret
                  exact ⟨rfl, B.out⟩
end Go.Proofs.Ytmfcjjjkndfojaa
