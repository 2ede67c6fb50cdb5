/-
  AffixMarks: the walk.
-/
import Derived.Test.YtbmgdheljnbmpaaVG
set_option maxRecDepth 100000
namespace Go.Proofs.Ytbmgdheljnbmpaa
open Go.RowKit
/-- The tokens that the law makes of runes. -/
def mtk (zs : List Int) (q : Bool) (k : Nat) : List Tok := (List.range k).map fun (j : Nat) => (zs.getD j 0, q, (j : Int) + 5)
theorem mtk_succ (zs : List Int) (q : Bool) (k : Nat) : mtk zs q (k + 1) = mtk zs q k ++ [(zs.getD k 0, q, (k : Int) + 5)] := by simp [mtk, List.range_succ]
theorem mtk_len (zs : List Int) (q : Bool) (k : Nat) : (mtk zs q k).length = k := by simp [mtk]
theorem mtk_im {zs : List Int} {q : Bool} {k j : Nat} (h : j < k) : im ((mtk zs q k).map itm) j = itm (zs.getD j 0, q, (j : Int) + 5) := by
  rw [im, List.getD, List.getElem?_map, mtk, List.getElem?_map, List.getElem?_range h]; rfl
theorem mtk_r32 {zs : List Int} {q : Bool} {k : Nat} (h : ∀ j, j < k → -2147483648 ≤ zs.getD j 0 ∧ zs.getD j 0 ≤ 2147483647) : ∀ t ∈ mtk zs q k, R32 t := by
  intro t ht
  obtain ⟨j, hj, rfl⟩ := List.mem_map.1 ht
  exact h j (List.mem_range.1 hj)
/-- Where the first plain mark stands, or -1. -/
def AtOK (ts : List Tok) (a : Int) : Prop := (ts.find? badT = none ∧ a = -1) ∨ (∃ t, ts.find? badT = some t ∧ a = t.2.2 ∧ 0 ≤ a)
theorem AtOK.keep {ts : List Tok} {a : Int} (h : AtOK ts a) (t : Tok) (hn : badT t = false ∨ 0 ≤ a) : AtOK (ts ++ [t]) a := by
  rcases h with ⟨h1, h2⟩ | ⟨t', h1, h2, h3⟩
  · left
    rw [List.find?_append, h1]
    rcases hn with hn | hn
    · exact ⟨by simp [hn], h2⟩
    · omega
  · right
    exact ⟨t', by rw [List.find?_append, h1]; rfl, h2, h3⟩
theorem AtOK.new {ts : List Tok} (h : AtOK ts (-1)) (t : Tok) (hb : badT t = true) (hp : 0 ≤ t.2.2) : AtOK (ts ++ [t]) t.2.2 := by
  rcases h with ⟨h1, _⟩ | ⟨t', _, _, h3⟩
  · right
    exact ⟨t, by rw [List.find?_append, h1]; simp [hb], rfl, hp⟩
  · omega
theorem AtOK.neg {ts : List Tok} {a : Int} (h : AtOK ts a) (ha : a < 0) : a = -1 := by
  rcases h with ⟨_, h2⟩ | ⟨_, _, _, h3⟩ <;> omega
set_option maxHeartbeats 4000000 in
theorem walk_affixMarks (A : Option Addr) (n c : Nat) (zs : List Int) (q : Bool) (w : World) (h : Rns w A n zs) :
    Calls Try.prog 7 #[.slice A n c, .bool q] w fun e w' => e = .returned (.bool true) ∧ Below w.heap.size w w' := by
  have HL := Lib.hid h.len
  have hn := h.2.1
  have H := Lib.hid h
  clear h
  generalize hg : w.heap.size = g at *
  have Hg := Lib.hid hg
  clear hg
  have B0 := Lib.hid (show Below g w w by rw [← Hg.out]; exact Below.refl _ _)
  go_enter Try.func7, Try.ntmps7
  go_wp2
  go_loopw [5, 6, 7] (fun tv av iv wr => ∃ (k : Nat) (a : Int), k ≤ n ∧ k ≤ 40 ∧ iv = .int .i64 (k : Int) ∧ av = .int .i64 a ∧ AtOK (mtk zs q k) a ∧ wr.ownsRow g 36 3 tv k (toksV (mtk zs q k)) ∧ (∀ j, j < k → -2147483648 ≤ zs.getD j 0 ∧ zs.getD j 0 ≤ 2147483647) ∧ Below g w wr) (fun _ _ iv _ => n - (intOf iv).toNat)
  case atStart => exact ⟨0, -1, Nat.zero_le _, Nat.zero_le _, rfl, rfl, .inl ⟨rfl, rfl⟩, World.ownsRow_nil _ _ _ _, fun j hj => absurd hj (by omega), B0.out⟩
  case round =>
    obtain ⟨k, a, hk, hk40, rfl, rfl, hat0, ho0, hrg0, hb0⟩ := hrel
    have HAT := Lib.hid hat0
    have HO := Lib.hid ho0
    have HRG := Lib.hid hrg0
    have HB := Lib.hid hb0
    have hgs : g ≤ wr.heap.size := by have := hb0.size; have := Hg.out; omega
    have HR := Lib.hid (H.out.below (w' := wr) (by rw [Hg.out]; exact hb0))
    clear hat0 ho0 hrg0 hb0
    by_cases hgo : k < n ∧ k < 40
    · obtain ⟨hlt, hl40⟩ := hgo
      have gi : decide ((k : Int) < (n : Int)) = true := decide_eq_true (by omega)
      have gj : decide ((k : Int) < 40) = true := decide_eq_true (by omega)
      obtain ⟨ad, rfl, hab, hc, hr1, hr2⟩ := HR.out.at_ hlt
      have HRG1 : Hid (∀ j, j < k + 1 → -2147483648 ≤ zs.getD j 0 ∧ zs.getD j 0 ≤ 2147483647) := Lib.hid fun j hj => by
        rcases Nat.lt_or_ge j k with hjk | hjk
        · exact HRG.out j hjk
        · obtain rfl : j = k := by omega
          exact ⟨hr1, hr2⟩
      have HS := Lib.hid (mtk_succ zs q k)
      generalize hz : zs.getD k 0 = r at *
      have HZ := Lib.hid hz
      clear hr1 hr2 hz
      have hpb : (ad.add k).block < wr.heap.size := by rw [block_of_add]; exact hab
      have hne : ∀ j, u5.ownBlock = some j → g ≤ j := fun j hj => (HO.out.lt j hj).1
      have hwr5 : IntKind.i64.wrap ((k : Int) + 5) = (k : Int) + 5 := IntWalk.i64_in _ (by omega)
      go_wp2_with (at_builtin; go_must (refine wpList_app_tok rfl (.tmp 21) (.tmp 30) _ rfl Try.underlying22 g u5 k (mtk zs q k) rfl HO.out (r, q, (k : Int) + 5) rfl r q ((k : Int) + 5) rfl (by omega) HB.out hgs ?_))
      intro v' w' ho4 hb4 hk4
      have HR1 := Lib.hid (H.out.below (w' := w') (by rw [Hg.out]; exact hb4.out))
      obtain ⟨ad', e', _, hc', _, _⟩ := HR1.out.at_ hlt
      cases e'
      rw [HZ.out] at hc'
      have CM := Lib.hid (refMark_c r w')
      by_cases ha : a < 0
      · obtain rfl := HAT.out.neg ha
        cases q
        · rcases hm : mrk r with _ | _
          · rw [hm] at CM
            have HN := Lib.hid (HAT.out.keep (r, false, (k : Int) + 5) (.inl (by simp [badT, hm])))
            clear hm ha hne
            go_wp2_with fail
            refine CM.out.mono ?_
            rintro e w0 ⟨rfl, rfl⟩
            go_wp2
            go_roundw
            case rel => exact ⟨k + 1, -1, by omega, by omega, by go_num, rfl, by rw [HS.out]; exact HN.out, by rw [HS.out]; exact ho4.out, HRG1.out, hb4.out⟩
            case measure => simp [intOf]; omega
          · rw [hm] at CM
            have HN := Lib.hid (HAT.out.new (r, false, (k : Int) + 5) (by simp [badT, hm]) (by dsimp only; omega))
            clear hm ha hne
            go_wp2_with fail
            refine CM.out.mono ?_
            rintro e w0 ⟨rfl, rfl⟩
            go_wp2
            go_roundw
            case rel => exact ⟨k + 1, (k : Int) + 5, by omega, by omega, by go_num, rfl, by rw [HS.out]; exact HN.out, by rw [HS.out]; exact ho4.out, HRG1.out, hb4.out⟩
            case measure => simp [intOf]; omega
        · have HN := Lib.hid (HAT.out.keep (r, true, (k : Int) + 5) (.inl rfl))
          clear ha hne
          go_wp2
          go_roundw
          case rel => exact ⟨k + 1, -1, by omega, by omega, by go_num, rfl, by rw [HS.out]; exact HN.out, by rw [HS.out]; exact ho4.out, HRG1.out, hb4.out⟩
          case measure => simp [intOf]; omega
      · have HN := Lib.hid (HAT.out.keep (r, q, (k : Int) + 5) (.inr (by omega)))
        have ga : decide (a < 0) = false := decide_eq_false ha
        clear ha hne
        go_wp2
        go_roundw
        case rel => exact ⟨k + 1, a, by omega, by omega, by go_num, rfl, by rw [HS.out]; exact HN.out, by rw [HS.out]; exact ho4.out, HRG1.out, hb4.out⟩
        case measure => simp [intOf]; omega
    · obtain ⟨A5, c5, hA⟩ := own_form HO.out
      subst hA
      have HXT := Lib.hid (show OwnT wr g A5 k c5 (mtk zs q k) from ⟨HO.out, by omega, mtk_r32 HRG.out⟩)
      have C1 := Lib.hid (affItems_c A5 k c5 (mtk zs q k) wr HXT.out.tks)
      by_cases hlt : k < n
      · have gi : decide ((k : Int) < (n : Int)) = true := decide_eq_true (by omega)
        have gj : decide ((k : Int) < 40) = false := decide_eq_false (by omega)
        clear hgo
        rcases HAT.out with ⟨h1, h2⟩ | ⟨t, h1, h2, h3⟩
        · subst h2
          rw [itms_ok h1 (by rw [mtk_len]; omega)] at C1
          clear h1 HAT HO HXT
          go_wp2_with fail
          refine (C1.out).mono ?_
          rintro e w1 ⟨Aa, ma, ca, rfl, hoa, hbx1⟩
          have hb1 := hbx1.out
          have Ta := Lib.hid hoa.out.its
          have La := Lib.hid hoa.out.len
          clear hoa hbx1
          have HR_1 := Lib.hid (HR.out.below hb1)
          clear HR
          have HB_1 := Lib.hid hb1
          clear hb1
          have ba2 := (Below.refl _ w1).alloc (Nat.le_refl _) (.cells #[(.int .i64 0), (.int .i64 0)] 27)
          have HR_2 := Lib.hid (HR_1.out.below ba2)
          clear HR_1
          have Ta_1 := Lib.hid (Ta.out.below ba2)
          clear Ta
          have HB_2 := Lib.hid (HB_1.out.trans (ba2.mono HB_1.out.size))
          clear HB_1
          clear ba2
          have Fa_0 := Lib.hid (FB.new w1 (.int .i64 0) (.int .i64 0))
          obtain rfl : k = ma := by have := La.out; rw [List.length_map, mtk_len] at this; exact this
          have f0 := Fa_0.out.c0
          go_wp2
          have HBW := Lib.hid (HB.out.trans (HB_2.out.mono hgs))
          have hgw : g ≤ (w1.alloc (.cells #[(.int .i64 0), (.int .i64 0)] 27)).heap.size := by have := HBW.out.size; have := Hg.out; omega
          have hkn : k ≤ n := hk
          clear HB_2 f0 La
          generalize (w1.alloc (.cells #[(.int .i64 0), (.int .i64 0)] 27)) = W2 at *
          go_loopw [10] (fun iv wv => ∃ (j i : Nat), j ≤ k ∧ iv = .int .i64 (j : Int) ∧ wv = W2.drewN i) (fun iv _ => k - (intOf iv).toNat)
          case atStart => exact ⟨0, 0, Nat.zero_le _, rfl, rfl⟩
          case round =>
            obtain ⟨j, i, hj, rfl, rfl⟩ := hrel
            by_cases hjk : j < k
            · obtain ⟨ax, rfl, _, x0, x1, _⟩ := Ta_1.out.at_ hjk
              rw [mtk_im hjk] at x0
              obtain ⟨ad1, rfl, _, y0, _, _⟩ := HR_2.out.at_ (show j < n by omega)
              clear x1
              generalize zs.getD j 0 = Z at *
              have CS := Lib.hid (fun W => refSign_c Z W)
              cases q
              · by_cases hK : sgK Z = 0
                · rw [itm_p (show sgK (Z, false, (j : Int) + 5).1 = 0 from hK)] at x0
                  rw [hK] at CS
                  clear hK
                  dsimp only at x0
                  go_wp2
                  go_quiet ((go_at_call 22; exact quiet_add_left (CS.out _)))
                  go_wp2
                  go_roundw
                  case rel => exact ⟨j + 1, _, by omega, by go_num, rfl⟩
                  case measure => simp [intOf]; omega
                · rw [itm_s (show (Z, false, (j : Int) + 5).2.1 = false from rfl) (show sgK (Z, false, (j : Int) + 5).1 ≠ 0 from hK)] at x0
                  have hK1 : (sgK Z == 1) = false := by rcases sgK_at Z with ⟨_, h⟩ | ⟨_, h⟩ | ⟨_, h⟩ | ⟨_, h⟩ | ⟨_, h⟩ | ⟨_, h⟩ <;> rw [h] <;> rfl
                  have hK0 : (sgK Z == 0) = false := by simpa using hK
                  dsimp only at x0
                  generalize sgK Z = K at *
                  clear hK
                  go_wp2
                  go_quiet ((go_at_call 22; exact quiet_add_left (CS.out _)))
                  go_wp2
                  go_roundw
                  case rel => exact ⟨j + 1, _, by omega, by go_num, rfl⟩
                  case measure => simp [intOf]; omega
              · rw [itm_q (show (Z, true, (j : Int) + 5).2.1 = true from rfl)] at x0
                dsimp only at x0
                go_wp2
                go_quiet (fail)
                go_wp2
                go_roundw
                case rel => exact ⟨j + 1, _, by omega, by go_num, rfl⟩
                case measure => simp [intOf]; omega
            · go_wp2_with fail
              refine (answers14_c _).mono ?_
              rintro e wz ⟨rfl, hbz⟩
              have HZ := Lib.hid (HBW.out.trans ((((Below.refl _ _).of_drewN i).trans hbz).mono hgw))
              clear hbz
              go_wp2
              go_ret
              exact ⟨rfl, HZ.out⟩
        · rw [itms_bad h1, ← h2] at C1
          have ga : decide (0 ≤ a) = true := decide_eq_true h3
          clear h1 h2 h3 HAT HO HXT
          go_wp2_with fail
          refine (C1.out).mono ?_
          rintro e w1 ⟨Aa, ma, ca, rfl, hoa, hbx1⟩
          have hb1 := hbx1.out
          have Ta := Lib.hid hoa.out.its
          have La := Lib.hid hoa.out.len
          clear hoa hbx1
          have HB_1 := Lib.hid hb1
          clear hb1
          have ba2 := (Below.refl _ w1).alloc (Nat.le_refl _) (.cells #[(.int .i64 4), (.int .i64 a)] 27)
          have Ta_1 := Lib.hid (Ta.out.below ba2)
          clear Ta
          have HB_2 := Lib.hid (HB_1.out.trans (ba2.mono HB_1.out.size))
          clear HB_1
          clear ba2
          have Fa_0 := Lib.hid (FB.new w1 (.int .i64 4) (.int .i64 a))
          obtain rfl : 0 = ma := La.out
          go_wp2_with fail
          refine (answers14_c _).mono ?_
          rintro e w3 ⟨rfl, hb3⟩
          have Ta_2 := Lib.hid (Ta_1.out.below hb3)
          clear Ta_1
          have Fa_1 := Lib.hid (Fa_0.out.below hb3 Fa_0.out.lt)
          clear Fa_0
          have HB_3 := Lib.hid (HB_2.out.trans (hb3.mono HB_2.out.size))
          clear HB_2
          clear hb3
          have e0 := Fa_1.out.c0
          have e1 := Fa_1.out.c1
          go_wp2
          go_ret
          exact ⟨rfl, HB.out.trans (HB_3.out.mono hgs)⟩
      · have gi : decide ((k : Int) < (n : Int)) = false := decide_eq_false (by omega)
        clear hgo
        rcases HAT.out with ⟨h1, h2⟩ | ⟨t, h1, h2, h3⟩
        · subst h2
          rw [itms_ok h1 (by rw [mtk_len]; omega)] at C1
          clear h1 HAT HO HXT
          go_wp2_with fail
          refine (C1.out).mono ?_
          rintro e w1 ⟨Aa, ma, ca, rfl, hoa, hbx1⟩
          have hb1 := hbx1.out
          have Ta := Lib.hid hoa.out.its
          have La := Lib.hid hoa.out.len
          clear hoa hbx1
          have HR_1 := Lib.hid (HR.out.below hb1)
          clear HR
          have HB_1 := Lib.hid hb1
          clear hb1
          have ba2 := (Below.refl _ w1).alloc (Nat.le_refl _) (.cells #[(.int .i64 0), (.int .i64 0)] 27)
          have HR_2 := Lib.hid (HR_1.out.below ba2)
          clear HR_1
          have Ta_1 := Lib.hid (Ta.out.below ba2)
          clear Ta
          have HB_2 := Lib.hid (HB_1.out.trans (ba2.mono HB_1.out.size))
          clear HB_1
          clear ba2
          have Fa_0 := Lib.hid (FB.new w1 (.int .i64 0) (.int .i64 0))
          obtain rfl : k = ma := by have := La.out; rw [List.length_map, mtk_len] at this; exact this
          have f0 := Fa_0.out.c0
          go_wp2
          have HBW := Lib.hid (HB.out.trans (HB_2.out.mono hgs))
          have hgw : g ≤ (w1.alloc (.cells #[(.int .i64 0), (.int .i64 0)] 27)).heap.size := by have := HBW.out.size; have := Hg.out; omega
          have hkn : k ≤ n := hk
          clear HB_2 f0 La
          generalize (w1.alloc (.cells #[(.int .i64 0), (.int .i64 0)] 27)) = W2 at *
          go_loopw [10] (fun iv wv => ∃ (j i : Nat), j ≤ k ∧ iv = .int .i64 (j : Int) ∧ wv = W2.drewN i) (fun iv _ => k - (intOf iv).toNat)
          case atStart => exact ⟨0, 0, Nat.zero_le _, rfl, rfl⟩
          case round =>
            obtain ⟨j, i, hj, rfl, rfl⟩ := hrel
            by_cases hjk : j < k
            · obtain ⟨ax, rfl, _, x0, x1, _⟩ := Ta_1.out.at_ hjk
              rw [mtk_im hjk] at x0
              obtain ⟨ad1, rfl, _, y0, _, _⟩ := HR_2.out.at_ (show j < n by omega)
              clear x1
              generalize zs.getD j 0 = Z at *
              have CS := Lib.hid (fun W => refSign_c Z W)
              cases q
              · by_cases hK : sgK Z = 0
                · rw [itm_p (show sgK (Z, false, (j : Int) + 5).1 = 0 from hK)] at x0
                  rw [hK] at CS
                  clear hK
                  dsimp only at x0
                  go_wp2
                  go_quiet ((go_at_call 22; exact quiet_add_left (CS.out _)))
                  go_wp2
                  go_roundw
                  case rel => exact ⟨j + 1, _, by omega, by go_num, rfl⟩
                  case measure => simp [intOf]; omega
                · rw [itm_s (show (Z, false, (j : Int) + 5).2.1 = false from rfl) (show sgK (Z, false, (j : Int) + 5).1 ≠ 0 from hK)] at x0
                  have hK1 : (sgK Z == 1) = false := by rcases sgK_at Z with ⟨_, h⟩ | ⟨_, h⟩ | ⟨_, h⟩ | ⟨_, h⟩ | ⟨_, h⟩ | ⟨_, h⟩ <;> rw [h] <;> rfl
                  have hK0 : (sgK Z == 0) = false := by simpa using hK
                  dsimp only at x0
                  generalize sgK Z = K at *
                  clear hK
                  go_wp2
                  go_quiet ((go_at_call 22; exact quiet_add_left (CS.out _)))
                  go_wp2
                  go_roundw
                  case rel => exact ⟨j + 1, _, by omega, by go_num, rfl⟩
                  case measure => simp [intOf]; omega
              · rw [itm_q (show (Z, true, (j : Int) + 5).2.1 = true from rfl)] at x0
                dsimp only at x0
                go_wp2
                go_quiet (fail)
                go_wp2
                go_roundw
                case rel => exact ⟨j + 1, _, by omega, by go_num, rfl⟩
                case measure => simp [intOf]; omega
            · go_wp2_with fail
              refine (answers14_c _).mono ?_
              rintro e wz ⟨rfl, hbz⟩
              have HZ := Lib.hid (HBW.out.trans ((((Below.refl _ _).of_drewN i).trans hbz).mono hgw))
              clear hbz
              go_wp2
              go_ret
              exact ⟨rfl, HZ.out⟩
        · rw [itms_bad h1, ← h2] at C1
          have ga : decide (0 ≤ a) = true := decide_eq_true h3
          clear h1 h2 h3 HAT HO HXT
          go_wp2_with fail
          refine (C1.out).mono ?_
          rintro e w1 ⟨Aa, ma, ca, rfl, hoa, hbx1⟩
          have hb1 := hbx1.out
          have Ta := Lib.hid hoa.out.its
          have La := Lib.hid hoa.out.len
          clear hoa hbx1
          have HB_1 := Lib.hid hb1
          clear hb1
          have ba2 := (Below.refl _ w1).alloc (Nat.le_refl _) (.cells #[(.int .i64 4), (.int .i64 a)] 27)
          have Ta_1 := Lib.hid (Ta.out.below ba2)
          clear Ta
          have HB_2 := Lib.hid (HB_1.out.trans (ba2.mono HB_1.out.size))
          clear HB_1
          clear ba2
          have Fa_0 := Lib.hid (FB.new w1 (.int .i64 4) (.int .i64 a))
          obtain rfl : 0 = ma := La.out
          go_wp2_with fail
          refine (answers14_c _).mono ?_
          rintro e w3 ⟨rfl, hb3⟩
          have Ta_2 := Lib.hid (Ta_1.out.below hb3)
          clear Ta_1
          have Fa_1 := Lib.hid (Fa_0.out.below hb3 Fa_0.out.lt)
          clear Fa_0
          have HB_3 := Lib.hid (HB_2.out.trans (hb3.mono HB_2.out.size))
          clear HB_2
          clear hb3
          have e0 := Fa_1.out.c0
          have e1 := Fa_1.out.c1
          go_wp2
          go_ret
          exact ⟨rfl, HB.out.trans (HB_3.out.mono hgs)⟩
end Go.Proofs.Ytbmgdheljnbmpaa
