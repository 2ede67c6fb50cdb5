/-
  TF: token's Print.
-/
import Derived.Test.YtbmgdheljnbmpaaTE
set_option maxRecDepth 100000
namespace Go.Proofs.Ytbmgdheljnbmpaa
open Go.RowKit
attribute [local go_sem] take_plain
/-- Runes as int32 has them. -/
def Rg (zs : List Int) : Prop := ∀ z ∈ zs, -2147483648 ≤ z ∧ z ≤ 2147483647
theorem rg_nil : Rg [] := fun _ h => absurd h (by simp)
theorem rg_append {xs ys : List Int} (hx : Rg xs) (hy : Rg ys) : Rg (xs ++ ys) := fun z hz => (List.mem_append.1 hz).elim (hx z) (hy z)
theorem rg_one {t : Tok} (h : R32 t) : Rg [t.1] := fun z hz => by rw [List.mem_singleton] at hz; subst hz; exact h
theorem rg_dbl {xs : List Int} (hx : Rg xs) : Rg (dbl xs) := by
  intro z hz
  obtain ⟨r, hr, hz⟩ := List.mem_flatMap.1 hz
  split at hz
  · simp only [List.mem_cons, List.not_mem_nil, or_false, or_self] at hz; subst hz; omega
  · rw [List.mem_singleton] at hz; subst hz; exact hx _ hr
theorem rg_inQ {xs : List Int} (hx : Rg xs) : Rg (inQ xs) := by
  unfold inQ; split
  · exact rg_dbl hx
  · intro z hz
    simp only [List.mem_cons, List.mem_append, List.not_mem_nil, or_false] at hz
    rcases hz with rfl | hz | rfl
    · omega
    · exact rg_dbl hx z hz
    · omega
/-- Is a token no plain '? -/
def okT (t : Tok) : Bool := t.2.1 || !decide (t.1 = 39)
theorem prtZ_ok {ts : List Tok} (h : ts.all okT = true) : prtZ ts = txtZ (prt ts []) := by
  have hm : ts.all mayT = (prt ts []).all isZ := by
    rw [prt_isZ, List.all_nil, Bool.true_and]
    have hgen : ∀ us : List Tok, us.all okT = true → us.all mayT = us.all fun t => isZ t.1 := by
      intro us
      induction us with
      | nil => intro _; rfl
      | cons t us ih =>
        intro h
        rw [List.all_cons, Bool.and_eq_true] at h
        rw [List.all_cons, List.all_cons, ih h.2, mayT, show (t.2.1 || !decide (t.1 = 39)) = true from h.1, Bool.and_true]
    exact hgen ts h
  rw [prtZ, txtZ, hm]; rfl
theorem prtZ_no {ts : List Tok} {t : Tok} (ht : t ∈ ts) (h : okT t = false) : prtZ ts = ⟨#[]⟩ := by
  have hm : ts.all mayT = false := by
    rw [Bool.eq_false_iff]
    intro ha
    have := List.all_eq_true.1 ha t ht
    rw [mayT, show (t.2.1 || !decide (t.1 = 39)) = false from h, Bool.and_false] at this
    cases this
  rw [prtZ, hm]; rfl
theorem tk_mem {ts : List Tok} {k : Nat} (h : k < ts.length) : tk ts k ∈ ts := by rw [tk_eq h]; exact List.getElem_mem h
theorem drop_tk {ts : List Tok} {k : Nat} (h : k < ts.length) : ts.drop k = tk ts k :: ts.drop (k + 1) := by rw [List.drop_eq_getElem_cons h, tk_eq h]
/-- A row stays as it is over what is done from a block behind it on. -/
theorem own_under {w w' : World} {base B : Nat} {e : TypeId} {size n : Nat} {v : Value} {xs : List Value} (h : w.ownsRow base e size v n xs) (hv : ∀ k, v.ownBlock = some k → k < B) (hb : Below B w w') : w'.ownsRow base e size v n xs := by
  refine ⟨h.1, ?_⟩
  rcases h.2 with h' | ⟨g, cap, cur, rfl, h1, h2, h3⟩
  · exact .inl h'
  · exact .inr ⟨g, cap, cur, rfl, h1, (hb.block g (hv g rfl)).trans h2, h3⟩
set_option maxHeartbeats 2000000 in
theorem tokPrint_c (A : Option Addr) (n c : Nat) (ts : List Tok) (w : World) (h : Tks w A n ts) (hn : n ≤ 100000000) : Calls Try.prog 27 #[.slice A n c] w fun e w' => e = .returned (.string (prtZ ts)) ∧ Hid (Below w.heap.size w w') := by
  have HL := Lib.hid h.len
  have H := Lib.hid h
  clear h
  generalize hg : w.heap.size = g at *
  have Hg := Lib.hid hg
  clear hg
  have B0 := Lib.hid (show Below g w w by rw [← Hg.out]; exact Below.refl _ _)
  go_enter Try.func27, Try.ntmps27
  go_wp2
  go_loopw [3, 4, 13] (fun ov rv iv wr => ∃ (k : Nat) (O R : List Int) (mo mr h0 : Nat), k ≤ n ∧ iv = .int .i64 (k : Int) ∧ (ts.take k).all okT = true ∧ prt ts [] = O ++ prt (ts.drop k) R ∧ mo + 2 * mr ≤ 4 * k ∧ Rg O ∧ Rg R ∧
    wr.ownsRow g 21 1 ov mo (i32s O) ∧ (∀ j, ov.ownBlock = some j → j < h0) ∧ wr.ownsRow h0 21 1 rv mr (i32s R) ∧ g ≤ h0 ∧ h0 ≤ wr.heap.size ∧ Below g w wr) (fun _ _ iv _ => n - (intOf iv).toNat)
  case atStart => exact ⟨0, [], [], 0, 0, g, Nat.zero_le _, rfl, rfl, rfl, by omega, rg_nil, rg_nil, World.ownsRow_nil _ _ _ _, fun j hj => by simp [Value.ownBlock] at hj, World.ownsRow_nil _ _ _ _, Nat.le_refl _, by rw [Hg.out]; exact Nat.le_refl _, B0.out⟩
  case round =>
    obtain ⟨k, O, R, mo, mr, h0, hk, rfl, hall0, hprt0, hpot, hO0, hR0, ho0, hob0, hr0, hgh, hhs, hb0⟩ := hrel
    have HALL := Lib.hid hall0
    have HPRT := Lib.hid hprt0
    have HRO := Lib.hid hO0
    have HRR := Lib.hid hR0
    have HO := Lib.hid ho0
    have HOB := Lib.hid hob0
    have HR := Lib.hid hr0
    have HB := Lib.hid hb0
    have HT := Lib.hid (H.out.below (w' := wr) (by rw [Hg.out]; exact hb0))
    clear hall0 hprt0 hO0 hR0 ho0 hob0 hr0 hb0
    by_cases hlt : k < n
    · have HDR := Lib.hid (drop_tk (ts := ts) (k := k) (by rw [HL.out]; exact hlt))
      have HTK := Lib.hid (tk_take_succ ts (k := k) (by rw [HL.out]; exact hlt))
      have HMEM := Lib.hid (tk_mem (ts := ts) (k := k) (by rw [HL.out]; exact hlt))
      obtain ⟨ad, rfl, _, c0, c1, c2, hr32⟩ := HT.out.at_ hlt
      have HR32 := Lib.hid hr32
      clear hr32
      generalize tk ts k = t at *
      obtain ⟨r, q, a⟩ := t
      dsimp only at c0 c1 c2
      cases q
      · obtain ⟨A4, c4, h4⟩ := own_form HR.out
        subst h4
        go_wp2_with fail
        refine (take_p r a _).mono ?_
        rintro e w1 ⟨rfl, hb1⟩
        have BA := (Below.refl _ wr).alloc (Nat.le_refl _) (.cells #[.int .i32 r, .bool false, .int .i64 a] 36)
        have B1 := Lib.hid (BA.trans (hb1.mono (by simp)))
        have hs1 : wr.heap.size + 1 ≤ w1.heap.size := by have := hb1.size; simpa using this
        clear BA hb1
        have q0 := isQ_no
        have q1 := isP_yes
        go_wp2_with fail
        refine (point_c r a _).mono ?_
        rintro e w2 ⟨rfl, hb2⟩
        have cA : (w1.alloc (.cells #[.int .i32 r, .int .i64 a] 63)).cell? ⟨w1.heap.size, 0, none⟩ = some (.int .i32 r) := by rw [cell_of_row _ w1.heap.size 0 _ _ _ (heap_alloc_new w1 _)]; rfl
        have cB : (w1.alloc (.cells #[.int .i32 r, .int .i64 a] 63)).cell? ⟨w1.heap.size, 1, none⟩ = some (.int .i64 a) := by rw [cell_of_row _ w1.heap.size 1 _ _ _ (heap_alloc_new w1 _)]; rfl
        have CA2 := Lib.hid ((hb2.cell (p := ⟨w1.heap.size, 0, none⟩) (by simp)).trans cA)
        have CB2 := Lib.hid ((hb2.cell (p := ⟨w1.heap.size, 1, none⟩) (by simp)).trans cB)
        have hq2 : w1.heap.size < w2.heap.size := by have := hb2.size; simp at this; omega
        have B2 := Lib.hid (B1.out.trans (((Below.refl _ w1).alloc (Nat.le_refl _) (.cells #[.int .i32 r, .int .i64 a] 63)).trans (hb2.mono (by simp)) |>.mono (Nat.le_of_succ_le hs1)))
        clear hb2 cA cB B1
        by_cases hr : r = 39
        · subst hr
          have HZ := Lib.hid (prtZ_no HMEM.out rfl)
          go_wp2
          go_ret
          rw [HZ.out]
          exact ⟨rfl, Lib.hid (HB.out.trans (B2.out.mono (Nat.le_trans hgh hhs)))⟩
        · have hr39 : (r == 39) = false := by simpa using hr
          have HO2 := Lib.hid (own_keptN HO.out B2.out rfl)
          have HR2 := Lib.hid (own_keptN HR.out B2.out rfl)
          have HB2 := Lib.hid (HB.out.trans (B2.out.mono (Nat.le_trans hgh hhs)))
          have HIQ := Lib.hid (inQuotes_c A4 mr c4 R w2 ⟨Reads.of_own HR2.out, by omega, HRR.out⟩ (by omega))
          go_wp2_with fail
          refine HIQ.out.mono ?_
          rintro e w3 ⟨v5, m5, rfl, ho5, hm5, hb5⟩
          have HO3 := Lib.hid (own_keptN HO2.out hb5.out rfl)
          have HB3 := Lib.hid (HB2.out.trans (hb5.out.mono (show g ≤ w2.heap.size by omega)))
          have CA3 := Lib.hid ((hb5.out.cell (p := ⟨w1.heap.size, 0, none⟩) hq2).trans CA2.out)
          have CB3 := Lib.hid ((hb5.out.cell (p := ⟨w1.heap.size, 1, none⟩) hq2).trans CB2.out)
          have hs3 : w2.heap.size ≤ w3.heap.size := hb5.out.size
          clear hb5 CA2 CB2 HO2 HR2 HIQ
          go_wp2_with (at_builtin; go_must (refine wpList_app_runes rfl (.tmp 34) (.tmp 36) _ rfl Try.underlying45 g u3 mo O rfl HO3.out v5 m5 w2.heap.size (inQ R) rfl ho5.out (by omega) HB3.out (by omega) ?_))
          intro v6 w4 ho6 hb6 hk6
          have hne : ∀ j, w1.heap.size ≤ j → u3.ownBlock ≠ some j := fun j hj e => by have := HOB.out j e; omega
          have cA4 : w4.cell? ⟨w1.heap.size, 0, none⟩ = some (.int .i32 r) := (World.cell?_of_block (w := w3) (hk6.out w1.heap.size (by omega) (hne _ (Nat.le_refl _)))).trans CA3.out
          have cB4 : w4.cell? ⟨w1.heap.size, 1, none⟩ = some (.int .i64 a) := (World.cell?_of_block (w := w3) (hk6.out w1.heap.size (by omega) (hne _ (Nat.le_refl _)))).trans CB3.out
          clear hk6 hne
          go_wp2_with fail
          refine (point_c r a w4).mono ?_
          rintro e w5 ⟨rfl, hb7⟩
          have HO5 := Lib.hid (own_keptN ho6.out hb7 rfl)
          have hg4 : g ≤ w4.heap.size := by have := hb6.out.size; have := Hg.out; omega
          have HB5 := Lib.hid (hb6.out.trans (hb7.mono hg4))
          have hg5 : g ≤ w5.heap.size := by have := hb7.size; omega
          clear hb7 cA4 cB4
          go_wp2_with (at_builtin; go_must (refine wpList_app_i32 rfl (.tmp 38) (.tmp 41) _ rfl Try.underlying45 g v6 (mo + m5) _ rfl HO5.out _ rfl r rfl (by omega) HB5.out hg5 ?_))
          intro v8 w6 ho8 hb8 _
          go_wp2
          go_roundw
          case rel =>
            refine ⟨k + 1, O ++ inQ R ++ [r], [], mo + m5 + 1, 0, w6.heap.size, by omega, by go_num, ?_, ?_, by omega, ?_, rg_nil, ?_, fun j hj => (ho8.out.lt j hj).2, World.ownsRow_nil _ _ _ _, ?_, Nat.le_refl _, hb8.out⟩
            · rw [HTK.out, List.all_append, HALL.out]; simp [okT, hr]
            · rw [HPRT.out, HDR.out, prt_p rfl]; simp
            · exact rg_append (rg_append HRO.out (rg_inQ HRR.out)) (rg_one HR32.out)
            · simpa using ho8.out
            · have := hb8.out.size; have := Hg.out; omega
          case measure => simp [intOf]; omega
      · go_wp2_with fail
        refine (take_q r a _).mono ?_
        rintro e w1 ⟨rfl, hb1⟩
        have BA := (Below.refl _ wr).alloc (Nat.le_refl _) (.cells #[.int .i32 r, .bool true, .int .i64 a] 36)
        have B1 := Lib.hid (BA.trans (hb1.mono (by simp)))
        have hs1 : wr.heap.size + 1 ≤ w1.heap.size := by have := hb1.size; simpa using this
        clear BA hb1
        have q0 := isQ_yes
        go_wp2_with fail
        refine (point_c r a _).mono ?_
        rintro e w2 ⟨rfl, hb2⟩
        have B2 := Lib.hid (B1.out.trans (((Below.refl _ w1).alloc (Nat.le_refl _) (.cells #[.int .i32 r, .int .i64 a] 65)).trans (hb2.mono (by simp)) |>.mono (Nat.le_of_succ_le hs1)))
        have hs2 : wr.heap.size ≤ w2.heap.size := B2.out.size
        clear hb2 B1
        have HO2 := Lib.hid (own_keptN HO.out B2.out rfl)
        have HR2 := Lib.hid (own_keptN HR.out B2.out rfl)
        have HB2 := Lib.hid (HB.out.trans (B2.out.mono (Nat.le_trans hgh hhs)))
        go_wp2_with (at_builtin; go_must (refine wpList_app_i32 (w0 := w2) rfl (.tmp 22) (.tmp 26) _ rfl Try.underlying45 h0 u4 mr _ rfl HR2.out _ rfl r rfl (by omega) (Below.refl h0 w2) (by omega) ?_))
        intro v8 w6 ho8 hb8 _
        go_wp2
        go_roundw
        case rel =>
          refine ⟨k + 1, O, R ++ [r], mo, mr + 1, h0, by omega, by go_num, ?_, ?_, by omega, HRO.out, ?_, own_under HO2.out HOB.out hb8.out, HOB.out, ?_, hgh, ?_, HB2.out.trans (hb8.out.mono hgh)⟩
          · rw [HTK.out, List.all_append, HALL.out]; simp [okT]
          · rw [HPRT.out, HDR.out, prt_q rfl]
          · exact rg_append HRR.out (rg_one HR32.out)
          · simpa using ho8.out
          · have := hb8.out.size; omega
        case measure => simp [intOf]; omega
    · have hkn : k = n := by omega
      subst hkn
      have HE := Lib.hid (show prtZ ts = txtZ (O ++ inQ R) by
        have h1 := HALL.out
        rw [List.take_of_length_le (by rw [HL.out]; exact Nat.le_refl _)] at h1
        rw [prtZ_ok h1, HPRT.out, List.drop_of_length_le (by rw [HL.out]; exact Nat.le_refl _), prt_nil])
      obtain ⟨A4, c4, h4⟩ := own_form HR.out
      subst h4
      have HIQ := Lib.hid (inQuotes_c A4 mr c4 R wr ⟨Reads.of_own HR.out, by omega, HRR.out⟩ (by omega))
      go_wp2_with fail
      refine HIQ.out.mono ?_
      rintro e w3 ⟨v5, m5, rfl, ho5, hm5, hb5⟩
      have HO3 := Lib.hid (own_keptN HO.out hb5.out rfl)
      have HB3 := Lib.hid (HB.out.trans (hb5.out.mono (show g ≤ wr.heap.size by omega)))
      have hs3 : wr.heap.size ≤ w3.heap.size := hb5.out.size
      clear hb5 HIQ
      go_wp2_with (at_builtin; go_must (refine wpList_app_runes rfl (.tmp 45) (.tmp 47) _ rfl Try.underlying45 g u3 mo O rfl HO3.out v5 m5 wr.heap.size (inQ R) rfl ho5.out (by omega) HB3.out (by omega) ?_))
      intro v6 w4 ho6 hb6 _
      obtain ⟨A6, c6, h6⟩ := own_form ho6.out
      subst h6
      have HTX := Lib.hid (utfText_c A6 (mo + m5) c6 (O ++ inQ R) w4 ⟨Reads.of_own ho6.out, by omega, rg_append HRO.out (rg_inQ HRR.out)⟩)
      go_wp2_with fail
      refine HTX.out.mono ?_
      rintro e w5 ⟨rfl, rfl⟩
      clear HTX
      rw [← HE.out]
      go_wp2
      go_ret
      exact ⟨rfl, hb6⟩
end Go.Proofs.Ytbmgdheljnbmpaa
