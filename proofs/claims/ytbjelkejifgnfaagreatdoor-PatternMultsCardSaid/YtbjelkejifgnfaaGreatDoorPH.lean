/-
  PH: elements of tokens.
-/
import Derived.Deep.RegionHeldLaw
import Derived.Deep.AppendLies
import Derived.Test.YtbjelkejifgnfaaGreatDoorPG
set_option maxRecDepth 100000
namespace Go.Proofs.YtbjelkejifgnfaaGreatDoor
open Go.RowKit
def elsQ (ts : List Tok) : List El × Int × Int := match elsB ts with
  | none => (elsL ts, 0, 0)
  | some a => ([], 7, a)
theorem elsQ_no {ts : List Tok} (h : elsB ts = none) : elsQ ts = (elsL ts, 0, 0) := by unfold elsQ; rw [h]
theorem elsQ_yes {ts : List Tok} {a : Int} (h : elsB ts = some a) : elsQ ts = ([], 7, a) := by unfold elsQ; rw [h]
theorem Tks.tail {w : World} {ad : Addr} {n : Nat} {t : Tok} {l : List Tok} (h : Tks w (some ad) n (t :: l)) : Tks w (some (ad.add 3)) (n - 1) l ∧ (n = 1 → l = []) := by
  have hl := h.len
  simp only [List.length_cons] at hl
  refine ⟨?_, fun h1 => List.eq_nil_of_length_eq_zero (by omega)⟩
  obtain ⟨ad', e, hb, hc⟩ := h.1.2 (by omega)
  obtain rfl := Option.some.inj e
  refine ⟨⟨by rw [toksV_length]; omega, fun _ => ⟨ad.add 3, rfl, by rw [block_of_add]; exact hb, fun j u hu => ?_⟩⟩, by have := h.2.1; omega, fun x hx => h.2.2 x (List.mem_cons_of_mem _ hx)⟩
  rw [add_of_add]
  refine hc (3 + j) u ?_
  rw [toksV_cons, List.getElem?_append_right (by show 3 ≤ 3 + j; omega)]
  show (toksV l)[3 + j - 3]? = some u
  rw [show 3 + j - 3 = j by omega]; exact hu
theorem tks_none {w : World} {A : Option Addr} {n : Nat} {t : Tok} {l : List Tok} (h : Tks w A n (t :: l)) : ∃ ad, A = some ad ∧ 0 < n ∧ ad.block < w.heap.size ∧ w.cell? ad = some (.int .i32 t.1) ∧ w.cell? ⟨ad.block, ad.off + 1, none⟩ = some (.bool t.2.1) ∧ w.cell? ⟨ad.block, ad.off + 2, none⟩ = some (.int .i64 t.2.2) := by
  have hl := h.len
  have h0 : 0 < n := by rw [← hl]; simp
  obtain ⟨ad, e, hb, c0, c1, c2, -⟩ := h.at_ h0
  have e0 : tk (t :: l) 0 = t := rfl
  rw [e0] at c0 c1 c2
  exact ⟨ad, e, h0, hb, c0, c1, c2⟩
theorem sl1_tok (ad : Addr) (n c : Nat) (h0 : 0 < n) (_hc : n ≤ c) : ∃ A', (∀ W, (Instr.slice 57 (.slice (some ad) n c) (some (.int .i64 1)) none none).run Tryz.prog W = .ok (.slice A' (n - 1) (c - 1)) W) ∧ (c = 1 ∨ A' = some (ad.add 3)) := by
  refine ⟨if c = 1 then some ad else some (ad.add 3), fun W => ?_, ?_⟩
  · rw [run_slice_l W _ (some ad) n c (by rw [Tryz.underlying57]; kernel_rfl) .i64 1 (by omega) (by omega)]
    have e : (sizeOf (Tryz.prog.elem 57)).run Tryz.prog W = .ok 3 W := by kernel_rfl
    rw [e]
    show Result.ok (sliced (some ad) 1 n c 3) W = _
    unfold sliced
    by_cases h : c = 1
    · rw [if_pos h, if_pos h]
    · rw [if_neg h, if_neg h]; rfl
  · by_cases h : c = 1
    · exact .inl h
    · rw [if_neg h]; exact .inr rfl
/-- What is left behind 'list[1:]'. -/
theorem tok_rest {w : World} {ad : Addr} {n c : Nat} {t : Tok} {l : List Tok} (h : Tks w (some ad) n (t :: l)) (h0 : 0 < n) (hc : n ≤ c) :
    ∃ A' n' c', (∀ W, (Instr.slice 57 (.slice (some ad) n c) (some (.int .i64 1)) none none).run Tryz.prog W = .ok (.slice A' n' c') W) ∧ Tks w A' n' l ∧ n' ≤ c' ∧ n' < n := by
  obtain ⟨A', HS, HA⟩ := sl1_tok ad n c h0 hc
  obtain ⟨t1, t2⟩ := h.tail
  refine ⟨A', n - 1, c - 1, HS, ?_, by omega, by omega⟩
  rcases HA with h' | rfl
  · rw [t2 (by omega), show n - 1 = 0 by omega]
    exact ⟨⟨rfl, fun h => absurd h (by omega)⟩, by omega, by simp⟩
  · exact t1
set_option maxHeartbeats 2000000 in
theorem elements_c (A : Option Addr) (n c : Nat) (ts : List Tok) (w : World) (h : Tks w A n ts) (hc : n ≤ c) (hn : n ≤ 1000) (hm : ts.all mayT = true) :
    Calls Tryz.prog 37 #[.slice A n c] w fun e w' => ∃ A' m c', e = .returned (.tuple #[.slice A' m c', .agg #[.int .i64 (elsQ ts).2.1, .int .i64 (elsQ ts).2.2]]) ∧ Hid (OwnE w' w.heap.size A' m c' (elsQ ts).1) ∧ Hid (Below w.heap.size w w') := by
  have HZ : Hid (∀ t ∈ ts, isZ t.1 = true) := Lib.hid fun t ht => by
    have := List.all_eq_true.1 hm t ht
    simp only [mayT, Bool.and_eq_true] at this
    exact this.1
  have HW := Lib.hid (h.below (below_new w (.cells #[.int .i64 0, .int .i64 0] 28)))
  have HB0 := Lib.hid (below_new w (.cells #[.int .i64 0, .int .i64 0] 28))
  have HF0 := Lib.hid (FB.new w (.int .i64 0) (.int .i64 0))
  have HLn := Lib.hid h.len
  clear h hm
  go_enter Tryz.func37, Tryz.ntmps37
  go_upto_region 1 with fail
  have hgW : w.heap.size < (w.alloc (.cells #[.int .i64 0, .int .i64 0] 28)).heap.size := by simp
  generalize w.alloc (.cells #[.int .i64 0, .int .i64 0] 28) = W0 at *
  generalize hg : w.heap.size = g at *
  have HGe := Lib.hid hg
  clear hg
  go_wp2
  go_loopw [0, 4] (fun s0 s4 wr => ∃ (A1 : Option Addr) (n1 c1 : Nat) (l : List Tok) (A2 : Option Addr) (m c2 : Nat) (D : List El), s0 = .slice A1 n1 c1 ∧ s4 = .slice A2 m c2 ∧ Tks W0 A1 n1 l ∧ n1 ≤ c1 ∧ (∀ t ∈ l, isZ t.1 = true) ∧ OwnE wr W0.heap.size A2 m c2 D ∧ Below W0.heap.size W0 wr ∧
      elsL ts = D ++ elsL l ∧ elsB ts = elsB l ∧ D.length + l.length ≤ 1000) (fun s0 _ _ => match s0 with | .slice _ k _ => k | _ => 0)
  case atStart => exact ⟨_, _, _, ts, none, 0, 0, [], rfl, rfl, HW.out, hc, HZ.out, ownE_nil _ _, Below.refl _ _, rfl, rfl, by rw [HLn.out]; simpa using hn⟩
  case round =>
    obtain ⟨A1, n1, c1, l, A2, m, c2, D, rfl, rfl, ht0, hc1, hz0, ho0, hb0, hL0, hB1, hlen0⟩ := hrel
    have HO := Lib.hid ho0
    have HB := Lib.hid hb0
    have HL := Lib.hid hL0
    have HBB := Lib.hid hB1
    have HTW := Lib.hid ht0
    have HT := Lib.hid (ht0.below hb0)
    have HF := Lib.hid (HF0.out.below hb0 hgW)
    have HZl := Lib.hid hz0
    have hDm := ho0.len
    clear ht0 ho0 hb0 hL0 hB1 hz0
    cases l with
    | nil =>
      obtain rfl : n1 = 0 := HTW.out.len.symm
      have a0 := HF.out.c0
      have a1 := HF.out.c1
      have q0 := HF.out.fr 0
      have q1 := HF.out.fr 1
      go_wp2
      have HX := Lib.hid (elsQ_no (HBB.out.trans rfl))
      refine bodyPost_ret (v := .tuple #[.slice A2 m c2, .agg #[.int .i64 0, .int .i64 0]]) (by simp [results, Tryz.results37, go_sem, a0, a1]) rfl ⟨A2, m, c2, ?_, ?_, ?_⟩
      · rw [HX.out]
      · rw [HX.out, show elsL ts = D by rw [HL.out]; simp [elsL]]
        exact Lib.hid ⟨own_weaken (own_setCell (own_setCell HO.out.1 (p := ⟨g, 0, none⟩) hgW _) (p := ⟨g, 1, none⟩) hgW _) (HGe.out ▸ Nat.le_of_lt hgW), HO.out.2⟩
      · rw [HGe.out]
        exact Lib.hid (Below.set2 (HB0.out.trans (HB.out.mono (Nat.le_of_lt hgW))) (Nat.le_refl _) _ _)
    | cons t l =>
      obtain ⟨ad, rfl, h0, hbk, k0, k1, k2⟩ := tks_none HT.out
      obtain ⟨A3, n3, c3, HS, ht3, hc3, hlt3⟩ := tok_rest HTW.out h0 hc1
      have HT3 := Lib.hid ht3
      have hz := HZl.out t (by simp)
      obtain ⟨r, q, a⟩ := t
      obtain ⟨x, rfl, hx⟩ := isZ_form hz
      have HSP := Lib.hid (fun W => spl_c x a q ⟨#[42]⟩ W (lo_lit (by decide)) (by decide) hx)
      have hst : stT ((x : Int), q, a) = (!q && inS8 ⟨#[42]⟩ x) := by
        have := cls_one 42 (e := (((x : Int), q, a), false)) hz
        simpa [cls, plE, stT] using this.symm
      generalize (!q && inS8 ⟨#[42]⟩ x) = b at HSP hst
      have HBn := Lib.hid (BX.new wr #[.int .i32 (x : Int), .bool q, .int .i64 a] 110)
      have HZt := Lib.hid hz
      clear ht3 hz
      cases b
      · have HN1 := Lib.hid (elsL_no hst l)
        have HN2 := Lib.hid (elsB_no hst l)
        clear hst
        go_wp2_with (first
          | (go_at_call 55; refine (HSP.out _).mono ?_; rintro e w1 ⟨rfl, hb1⟩; have hq := (HBn.out.below hb1 HBn.out.lt); have d0 := hq.c 0; have d1 := hq.c 1; have d2 := hq.c 2; have HBq := Lib.hid ((below_new wr (.cells #[.int .i32 (x : Int), .bool q, .int .i64 a] 110)).trans (hb1.mono (by simp))); have HOq := Lib.hid (HO.out.keep HBq.out rfl))
          | (at_builtin; go_must (refine wpList_app_el rfl (.tmp 18) (.tmp 21) _ rfl Tryz.underlying47 W0.heap.size (.slice A2 m c2) m D rfl HOq.out.1 (((x : Int), q, a), false) rfl _ _ (pE_s _ _ _) (by omega) (HB.out.trans (HBq.out.mono HB.out.size)) (Nat.le_trans HB.out.size HBq.out.size) ?_))
          | fail)
        intro v' w' p1 p2 p3
        obtain ⟨A4, c4, rfl⟩ := own_form p1.out
        go_wp2
        go_roundw
        case rel =>
          refine ⟨_, _, _, l, _, _, _, D ++ [(((x : Int), q, a), false)], rfl, rfl, HT3.out, hc3, fun t ht => HZl.out t (List.mem_cons_of_mem _ ht), ⟨by rw [List.map_append]; exact p1.out, ?_, ?_⟩, p2.out, ?_, ?_, ?_⟩
          · simp at hlen0; omega
          · intro t ht
            rcases List.mem_append.1 ht with ht | ht
            · exact HO.out.2.2 t ht
            · rw [List.mem_singleton] at ht; subst ht; exact HZt.out
          · rw [HL.out, HN1.out, List.append_assoc]; rfl
          · rw [HBB.out, HN2.out]
          · simp at hlen0 ⊢; omega
        case measure => exact hlt3
      · cases l with
        | nil =>
          obtain rfl : n3 = 0 := HT3.out.len.symm
          have HX := Lib.hid (elsQ_yes (HBB.out.trans (elsB_end hst)))
          clear hst
          go_wp2_with (first
            | (go_at_call 55; refine (HSP.out _).mono ?_; rintro e w1 ⟨rfl, hb1⟩; have hq := (HBn.out.below hb1 HBn.out.lt); have d0 := hq.c 0; have d1 := hq.c 1; have d2 := hq.c 2; have HBq := Lib.hid ((below_new wr (.cells #[.int .i32 (x : Int), .bool q, .int .i64 a] 110)).trans (hb1.mono (by simp))); have HOq := Lib.hid (HO.out.keep HBq.out rfl); have HFq := Lib.hid (HF.out.below HBq.out HF.out.lt); have a0 := HFq.out.c0; have a1 := HFq.out.c1; have q0 := HFq.out.fr 0; have q1 := HFq.out.fr 1)
            | fail)
          go_region
          go_wp2
          refine bodyPost_ret (v := .tuple #[.slice none 0 0, .agg #[.int .i64 7, .int .i64 a]]) (by simp [results, Tryz.results37, go_sem, a0, a1]) rfl ⟨none, 0, 0, ?_, ?_, ?_⟩
          · rw [HX.out]
          · rw [HX.out]
            exact Lib.hid (ownE_nil _ _)
          · rw [HGe.out]
            have := Below.set2 ((HB0.out.trans (HB.out.mono (Nat.le_of_lt hgW))).trans (HBq.out.mono (Nat.le_of_lt HF.out.lt))) (Nat.le_refl g) (.int .i64 7) (.int .i64 a)
            exact Lib.hid this.drew
        | cons u l =>
          obtain ⟨ad3, rfl, h03, hbk3, k3, -, -⟩ := tks_none HT3.out
          obtain ⟨A5, n5, c5, HS5, ht5, hc5, hlt5⟩ := tok_rest HT3.out h03 hc3
          have HT5 := Lib.hid ht5
          have HN1 := Lib.hid (elsL_st hst u l)
          have HN2 := Lib.hid (elsB_st hst u l)
          have hz2 := HZl.out u (by simp)
          have HZu := Lib.hid hz2
          have HK3 := Lib.hid ((HB.out.cell (p := ad3) hbk3).trans k3)
          have hbr3 := Nat.lt_of_lt_of_le hbk3 HB.out.size
          obtain ⟨r2, q2, a2⟩ := u
          clear hst ht5 k3 hz2
          go_wp2_with (first
            | (go_at_call 55; refine (HSP.out _).mono ?_; rintro e w1 ⟨rfl, hb1⟩; have hq := (HBn.out.below hb1 HBn.out.lt); have d0 := hq.c 0; have d1 := hq.c 1; have d2 := hq.c 2; have HBq := Lib.hid ((below_new wr (.cells #[.int .i32 (x : Int), .bool q, .int .i64 a] 110)).trans (hb1.mono (by simp))); have HOq := Lib.hid (HO.out.keep HBq.out rfl); have k3 := (HBq.out.cell (p := ad3) hbr3).trans HK3.out)
            | fail)
          have HBd := Lib.hid (HBq.out.drew)
          have HOd := Lib.hid (HOq.out.keep ((Below.refl w1.heap.size w1).drew) rfl)
          obtain ⟨i0, hi, hz0, hz1, hz2⟩ := info_parts pelm_info
          have hq3 : ad3.block < w1.heap.size := Nat.lt_of_lt_of_le hbr3 HBq.out.size
          have hqb : wr.heap.size < w1.heap.size := Nat.lt_of_lt_of_le (by simp) hb1.size
          have hne : ∀ j, (Value.slice A2 m c2).ownBlock = some j → W0.heap.size ≤ j ∧ j < wr.heap.size := fun j hj => HO.out.1.lt j hj
          have HNE := Lib.hid hne
          clear hne
          have hdr : w1.drew.heap.size = w1.heap.size := rfl
          have hszB : W0.heap.size ≤ w1.drew.heap.size := Nat.le_trans HB.out.size HBd.out.size
          go_region_held_law (fun w' => w'.cell? ad3 = some (.int .i32 r2) ∧ w'.cell? ⟨wr.heap.size, 2, none⟩ = some (.int .i64 a))
            (first
              | go_keep
              | (refine ⟨(hgrow.cell_far ad3 (by simp; omega) (fun e => by have := HNE.out _ e.symm; omega)).trans (by first | assumption | (refine (World.cell?_alloc_some _ _ _ (Option.isSome_iff_exists.2 ⟨_, by assumption⟩)).trans (by assumption))), (hgrow.cell_far ⟨wr.heap.size, 2, none⟩ (by simp; omega) (fun e => by have := HNE.out _ e.symm; dsimp only at this; omega)).trans (by first | assumption | (refine (World.cell?_alloc_some _ _ _ (Option.isSome_iff_exists.2 ⟨_, by assumption⟩)).trans (by assumption)))⟩))
            ((refine step_append_lies _ (by rfl) (.tmp 30) (.tmp 40) _ (by rfl) W0.heap.size 83 i0 .nilIface 1 16 Tryz.underlying47 hi hz0 hz1 hz2 rfl (by decide) (.slice A2 m c2) m (D.map pE) (by rfl) (HOd.out.1.alloc _) ⟨w1.drew.heap.size, 0, none⟩ 1 1 [pE ((r2, false, a), true)] (by rfl) (by rfl) (cells_row w1.drew _ _) (by simp [pE, Value.oneCell']) (by omega) (by unfold maxLen; omega) (by omega) (by simp; omega) _ rfl ?_; intro g' cap w2 hown1 hgrow hat hlt))
          have HB2 := Lib.hid (((HB.out.trans (HBd.out.mono HB.out.size)).alloc hszB _).grown hgrow (by simp; omega) fun j hj => (HO.out.1.lt j hj).1)
          have HO2 := Lib.hid hown1
          clear hown1 hgrow hat hlt HNE
          go_wp2
          go_roundw
          case rel =>
            refine ⟨_, _, _, l, _, _, _, D ++ [((r2, false, a), true)], rfl, rfl, HT5.out, hc5, fun t ht => HZl.out t (List.mem_cons_of_mem _ (List.mem_cons_of_mem _ ht)), ⟨by rw [List.map_append]; exact HO2.out, ?_, ?_⟩, HB2.out, ?_, ?_, ?_⟩
            · simp at hlen0; omega
            · intro t ht
              rcases List.mem_append.1 ht with ht | ht
              · exact HO.out.2.2 t ht
              · rw [List.mem_singleton] at ht; subst ht; exact HZu.out
            · rw [HL.out, HN1.out, List.append_assoc]; rfl
            · rw [HBB.out, HN2.out]
            · simp at hlen0 ⊢; omega
          case measure => exact Nat.lt_trans hlt5 hlt3
end Go.Proofs.YtbjelkejifgnfaaGreatDoor
