/-
  PL: where padding is.
-/
import Derived.Test.YtbjelkejifgnfaaGreatDoorPK
set_option maxRecDepth 100000
namespace Go.Proofs.YtbjelkejifgnfaaGreatDoor
open Go.RowKit
theorem padR_no {W : Nat → Int} {i : Nat} {e : El} {l : List El} {a r : Int} (h : e.2 = false) : padR W i (e :: l) a r = padR W (i + 1) l a r := by
  rw [padR, if_neg (by rw [h]; decide)]
theorem padR_bad {W : Nat → Int} {i : Nat} {e : El} {l : List El} {a r : Int} (h : e.2 = true) (hb : W i = 0 ∨ a ≠ 0) : padR W i (e :: l) a r = ((0, 0), 7, e.1.2.2) := by
  rw [padR, if_pos h, if_pos hb]
theorem padR_ok {W : Nat → Int} {i : Nat} {e : El} {l : List El} {a r : Int} (h : e.2 = true) (hb : ¬ (W i = 0 ∨ a ≠ 0)) : padR W i (e :: l) a r = padR W (i + 1) l (W i) e.1.1 := by
  rw [padR, if_pos h, if_neg hb]
theorem isP2_yes (W : World) (v : Value) : (Instr.typeAssert (.iface 112 v) 83 112 true).run Tryz.prog W = .ok (.tuple #[v, .bool true]) W := by kernel_rfl
theorem isP2_no (W : World) (v : Value) : (Instr.typeAssert (.iface 110 v) 83 112 true).run Tryz.prog W = .ok (.tuple #[.agg #[.int .i32 0, .int .i64 0], .bool false]) W := by kernel_rfl
set_option maxHeartbeats 4000000 in
theorem padded_c {D : Nat} (v : Value) (b : Int) (l : Bool) (es : List El) (w : World) (h : HfM w D v b l es) (hn : es.length ≤ 1000) :
    Calls Tryz.prog 41 #[v] w fun e w' => e = .returned (.tuple #[.int .i64 (padZ (!l) es).1.1, .int .i32 (padZ (!l) es).1.2, .agg #[.int .i64 (padZ (!l) es).2.1, .int .i64 (padZ (!l) es).2.2]]) ∧ Hid (Below w.heap.size w w') := by
  have HM := Lib.hid h
  obtain ⟨A1, n1, c1, A2, n2, c2, A3, n3, c3, rfl, h1, h2, h3, l1, l2, l3⟩ := h
  obtain ⟨N, hN⟩ : ∃ N, es.length = N := ⟨_, rfl⟩
  have HN := Lib.hid hN
  rw [hN] at hn
  have HWH := Lib.hid (fun (W : World) (hb : Below w.heap.size w W) (i : Nat) (hi : i < N) => where16_c _ b l es i W (HM.out.below hb) (by rw [hN]; exact hn) (by rw [hN]; exact hi))
  have e1 := h1.len
  have e2 := h2.len
  have e3 := h3.len
  have e4 := hpl es
  rw [e1, e2, e3, hN] at e4
  have hap : allP [(A1, n1, c1, hpre es), (A2, n2, c2, hnum es), (A3, n3, c3, hsuf es)] 3 = es := by
    unfold allP
    simp
    exact (half_parts es).symm
  have htp : totP [(A1, n1, c1, hpre es), (A2, n2, c2, hnum es), (A3, n3, c3, hsuf es)] 3 = N := by
    unfold totP
    simp
    omega
  generalize hPZ : padZ (!l) es = PZ
  have HPZ : Hid (padR (whr (!l) (hpre es).length ((hpre es).length + (hnum es).length) es.length) 0 es 0 0 = PZ) := Lib.hid hPZ
  generalize whr (!l) (hpre es).length ((hpre es).length + (hnum es).length) es.length = WH at *
  clear hPZ
  have HX := Lib.hid (BX.new w #[.int .i64 b, .bool l, .slice A1 n1 c1, .slice A2 n2 c2, .slice A3 n3 c3] 49)
  have HB1 := below_new w (.cells #[.int .i64 b, .bool l, .slice A1 n1 c1, .slice A2 n2 c2, .slice A3 n3 c3] 49)
  have HXF : Hid (BX ((w.alloc (.cells #[.int .i64 b, .bool l, .slice A1 n1 c1, .slice A2 n2 c2, .slice A3 n3 c3] 49)).alloc (.cells #[.int .i64 0, .int .i64 0] 28)) w.heap.size #[.int .i64 b, .bool l, .slice A1 n1 c1, .slice A2 n2 c2, .slice A3 n3 c3] 49 ∧ FB ((w.alloc (.cells #[.int .i64 b, .bool l, .slice A1 n1 c1, .slice A2 n2 c2, .slice A3 n3 c3] 49)).alloc (.cells #[.int .i64 0, .int .i64 0] 28)) (w.heap.size + 1) (.int .i64 0) (.int .i64 0)) :=
    Lib.hid ⟨HX.out.alloc _, by have := FB.new (w.alloc (.cells #[.int .i64 b, .bool l, .slice A1 n1 c1, .slice A2 n2 c2, .slice A3 n3 c3] 49)) (.int .i64 0) (.int .i64 0); simpa using this⟩
  have HB2 := Lib.hid (HB1.alloc (o := .cells #[.int .i64 0, .int .i64 0] 28) (by simp) )
  clear HB1 HX
  go_enter Tryz.func41, Tryz.ntmps41
  go_upto_region 1 with fail
  generalize (w.alloc (.cells #[.int .i64 b, .bool l, .slice A1 n1 c1, .slice A2 n2 c2, .slice A3 n3 c3] 49)).alloc (.cells #[.int .i64 0, .int .i64 0] 28) = W0 at *
  generalize hg : w.heap.size = g at *
  have HGe := Lib.hid hg
  clear hg
  have d2 := HXF.out.1.c 2
  have d3 := HXF.out.1.c 3
  have d4 := HXF.out.1.c 4
  have HCO := Lib.hid (show Calls Tryz.prog 58 #[.slice (some ⟨W0.heap.size, 0, none⟩) 3 3] (W0.alloc (.cells #[.slice A1 n1 c1, .slice A2 n2 c2, .slice A3 n3 c3] 47)) (fun e w' =>
      ∃ A' m c', e = .returned (.slice A' m c') ∧ Hid (w'.ownsRow (W0.heap.size + 1) 83 1 (.slice A' m c') m (es.map pE)) ∧ Hid (Below W0.heap.size W0 w')) by
    have hbn := below_new W0 (.cells #[.slice A1 n1 c1, .slice A2 n2 c2, .slice A3 n3 c3] 47)
    have hbx := BX.new W0 #[.slice A1 n1 c1, .slice A2 n2 c2, .slice A3 n3 c3] 47
    have hbb : Below w.heap.size w (W0.alloc (.cells #[.slice A1 n1 c1, .slice A2 n2 c2, .slice A3 n3 c3] 47)) := by
      rw [HGe.out]
      exact HB2.out.trans (hbn.mono (Nat.le_of_lt HXF.out.1.lt))
    have := concat_c D W0.heap.size 3 3 [(A1, n1, c1, hpre es), (A2, n2, c2, hnum es), (A3, n3, c3, hsuf es)] (W0.alloc (.cells #[.slice A1 n1 c1, .slice A2 n2 c2, .slice A3 n3 c3] 47)) rfl (by omega) (by rw [htp]; omega) ⟨hbx.lt, fun j hj => by
      have : j = 0 ∨ j = 1 ∨ j = 2 := by simp at hj; omega
      rcases this with rfl | rfl | rfl
      · exact ⟨hbx.c 0, h1.below hbb, l1⟩
      · exact ⟨hbx.c 1, h2.below hbb, l2⟩
      · exact ⟨hbx.c 2, h3.below hbb, l3⟩⟩
    rw [hap] at this
    refine this.mono ?_
    rintro e w' ⟨A', m, c', rfl, ho, hb⟩
    refine ⟨A', m, c', rfl, ?_, Lib.hid (hbn.trans (hb.out.mono (by simp)))⟩
    simpa using ho)
  go_upto_region 2 with (first
    | (go_at_call 58; refine HCO.out.mono ?_; rintro e w1 ⟨A', m, c', rfl, ho, hb1⟩)
    | fail)
  obtain rfl : m = N := by have := ho.out.1; rw [List.length_map, hN] at this; omega
  have hz : ∀ e ∈ es, isZ e.1.1 = true := by
    intro e he
    rw [half_parts es] at he
    rcases List.mem_append.1 he with he | he
    · exact h1.z e he
    · rcases List.mem_append.1 he with he | he
      · exact h2.z e he
      · exact h3.z e he
  have HP : Hid (Pls w1 w1.heap.size A' m es) := Lib.hid ⟨Reads.of_own ho.out, Nat.le_refl _, by omega, hz⟩
  have HX1 := Lib.hid (HXF.out.1.below hb1.out HXF.out.1.lt)
  have HF1 := Lib.hid (HXF.out.2.below hb1.out HXF.out.2.lt)
  have HBw1 : Hid (Below w.heap.size w w1) := Lib.hid (by
    rw [HGe.out]
    exact HB2.out.trans (hb1.out.mono (Nat.le_of_lt HXF.out.1.lt)))
  clear d2 d3 d4 h1 h2 h3 l1 l2 l3 e1 e2 e3 e4 hap htp HCO hz ho HM
  go_wp2
  go_loopw [2, 3, 19] (fun s2 s3 iv wr => ∃ (k : Nat) (a r : Int), k ≤ m ∧ iv = .int .i64 (k : Int) ∧ s2 = .int .i64 a ∧ s3 = .int .i32 r ∧ padR WH k (es.drop k) a r = PZ ∧ Below w1.heap.size w1 wr) (fun _ _ iv _ => m - (intOf iv).toNat)
  case atStart => exact ⟨0, 0, 0, Nat.zero_le _, rfl, rfl, rfl, HPZ.out, Below.refl _ _⟩
  case round =>
    obtain ⟨k, a, r, hk, rfl, rfl, rfl, hpz, hb0⟩ := hrel
    have HE0 := Lib.hid hpz
    have HB := Lib.hid hb0
    have HT := Lib.hid (HP.out.below hb0)
    have HX := Lib.hid (HX1.out.below hb0 HX1.out.lt)
    have HF := Lib.hid (HF1.out.below hb0 HF1.out.lt)
    have HWk0 := Lib.hid (fun (hkm : k < m) (W : World) (hb : Below wr.heap.size wr W) => HWH.out W (HGe.out ▸ HBw1.out.trans ((hb0.trans (hb.mono hb0.size)).mono HBw1.out.size)) k hkm)
    clear hpz hb0
    by_cases hlt : k < m
    · have hks : k < es.length := by rw [HN.out]; exact hlt
      obtain ⟨ad, rfl, hbk, c0, hz⟩ := HT.out.at_ hlt
      rw [el4_eq hks] at c0 hz
      have HE1 : Hid (padR WH k (es[k] :: es.drop (k + 1)) a r = PZ) := Lib.hid (by rw [← HE0.out, List.drop_eq_getElem_cons hks])
      have HWk1 := Lib.hid (HWk0.out hlt)
      clear HE0 HWk0
      generalize es[k] = ek at *
      obtain ⟨⟨q, qb, t⟩, pd⟩ := ek
      cases pd
      · rw [pE_s] at c0
        have h1 := isP2_no
        go_wp2
        go_roundw
        case rel => exact ⟨k + 1, a, r, by omega, by go_num, rfl, rfl, by rw [← HE1.out, padR_no rfl], HB.out.alloc HB.out.size _⟩
        case measure => simp [intOf]; omega
      · rw [pE_p] at c0
        have h1 := isP2_yes
        have x0 : (wr.alloc (.cells #[.int .i32 q, .int .i64 t] 112)).cell? ⟨g, 0, none⟩ = some (.int .i64 b) := (HX.out.alloc _).c 0
        have x1 : (wr.alloc (.cells #[.int .i32 q, .int .i64 t] 112)).cell? ⟨g, 1, none⟩ = some (.bool l) := (HX.out.alloc _).c 1
        have x2 : (wr.alloc (.cells #[.int .i32 q, .int .i64 t] 112)).cell? ⟨g, 2, none⟩ = some (.slice A1 n1 c1) := (HX.out.alloc _).c 2
        have x3 : (wr.alloc (.cells #[.int .i32 q, .int .i64 t] 112)).cell? ⟨g, 3, none⟩ = some (.slice A2 n2 c2) := (HX.out.alloc _).c 3
        have x4 : (wr.alloc (.cells #[.int .i32 q, .int .i64 t] 112)).cell? ⟨g, 4, none⟩ = some (.slice A3 n3 c3) := (HX.out.alloc _).c 4
        have HWk := Lib.hid (HWk1.out _ (below_new wr (.cells #[.int .i32 q, .int .i64 t] 112)))
        clear HWk1
        by_cases hw0 : WH k = 0
        · have HE := Lib.hid (HE1.out.symm.trans (padR_bad rfl (.inl hw0)))
          rw [hw0] at HWk
          clear hw0 HE1
          go_wp2_with (first
            | (go_at_call 59; refine HWk.out.mono ?_; rintro e w2 ⟨rfl, hb2⟩; have HBw := Lib.hid ((below_new wr (.cells #[.int .i32 q, .int .i64 t] 112)).trans (hb2.out.mono (by simp))))
            | (go_at_call 169; refine (pplace_c _ _ _).mono ?_; rintro e w3 ⟨rfl, hb3⟩; have HFq := Lib.hid ((HF.out.below HBw.out HF.out.lt).below hb3 (Nat.lt_of_lt_of_le HF.out.lt HBw.out.size)); have a0 := HFq.out.c0; have a1 := HFq.out.c1; have q0 := HFq.out.fr 0; have q1 := HFq.out.fr 1)
            | fail)
          refine bodyPost_ret (v := .tuple #[.int .i64 0, .int .i32 0, .agg #[.int .i64 7, .int .i64 t]]) (by simp [results, Tryz.results41, go_sem, a0, a1]) rfl ⟨by rw [HE.out], Lib.hid ?_⟩
          rw [HGe.out]
          have h9 := ((HB2.out.trans ((hb1.out.trans (HB.out.mono hb1.out.size)).mono (Nat.le_of_lt HXF.out.1.lt))).trans (HBw.out.mono (Nat.le_of_lt HX.out.lt))).trans (hb3.mono (Nat.le_trans (Nat.le_of_lt HX.out.lt) HBw.out.size))
          exact Below.set2 h9 (Nat.le_succ g) _ _
        · by_cases ha : a = 0
          · have HE := Lib.hid (HE1.out.symm.trans (padR_ok rfl (fun e => e.elim hw0 (fun h => h ha))))
            have g1 : (WH k == 0) = false := by simpa using hw0
            subst ha
            generalize WH k = wk at *
            clear hw0 HE1
            go_wp2_with (first
              | (go_at_call 59; refine HWk.out.mono ?_; rintro e w2 ⟨rfl, hb2⟩; have HBw := Lib.hid ((below_new wr (.cells #[.int .i32 q, .int .i64 t] 112)).trans (hb2.out.mono (by simp))); have y0 := ((BX.new wr #[.int .i32 q, .int .i64 t] 112).below hb2.out (BX.new wr #[.int .i32 q, .int .i64 t] 112).lt).c 0)
              | fail)
            go_quiet (fail)
            go_wp2
            go_roundw
            case rel => exact ⟨k + 1, wk, q, by omega, by go_num, rfl, rfl, HE.out.symm, (HB.out.trans (HBw.out.mono HB.out.size)).of_drewN _⟩
            case measure => simp [intOf]; omega
          · have HE := Lib.hid (HE1.out.symm.trans (padR_bad rfl (.inr ha)))
            have g1 : (WH k == 0) = false := by simpa using hw0
            have g2 : (a != 0) = true := by simpa using ha
            generalize WH k = wk at *
            clear hw0 ha HE1
            go_wp2_with (first
              | (go_at_call 59; refine HWk.out.mono ?_; rintro e w2 ⟨rfl, hb2⟩; have HBw := Lib.hid ((below_new wr (.cells #[.int .i32 q, .int .i64 t] 112)).trans (hb2.out.mono (by simp))))
              | (go_at_call 169; refine (pplace_c _ _ _).mono ?_; rintro e w3 ⟨rfl, hb3⟩; have HFq := Lib.hid ((HF.out.below HBw.out HF.out.lt).below hb3 (Nat.lt_of_lt_of_le HF.out.lt HBw.out.size)); have a0 := HFq.out.c0; have a1 := HFq.out.c1; have q0 := HFq.out.fr 0; have q1 := HFq.out.fr 1)
              | fail)
            refine bodyPost_ret (v := .tuple #[.int .i64 0, .int .i32 0, .agg #[.int .i64 7, .int .i64 t]]) (by simp [results, Tryz.results41, go_sem, a0, a1]) rfl ⟨by rw [HE.out], Lib.hid ?_⟩
            rw [HGe.out]
            have h9 := ((HB2.out.trans ((hb1.out.trans (HB.out.mono hb1.out.size)).mono (Nat.le_of_lt HXF.out.1.lt))).trans (HBw.out.mono (Nat.le_of_lt HX.out.lt))).trans (hb3.mono (Nat.le_trans (Nat.le_of_lt HX.out.lt) HBw.out.size))
            exact Below.set2 h9 (Nat.le_succ g) _ _
    · obtain rfl : k = m := by omega
      have hde : es.drop k = [] := List.drop_eq_nil_of_le (by rw [HN.out]; exact Nat.le_refl _)
      have HE : Hid (PZ = ((a, r), 0, 0)) := Lib.hid (by rw [← HE0.out, hde]; rfl)
      have a0 := HF.out.c0
      have a1 := HF.out.c1
      have q0 := HF.out.fr 0
      have q1 := HF.out.fr 1
      clear hde
      go_wp2
      refine bodyPost_ret (v := .tuple #[.int .i64 a, .int .i32 r, .agg #[.int .i64 0, .int .i64 0]]) (by simp [results, Tryz.results41, go_sem, a0, a1]) rfl ⟨by rw [HE.out], Lib.hid ?_⟩
      rw [HGe.out]
      have h9 := HB2.out.trans ((hb1.out.trans (HB.out.mono hb1.out.size)).mono (Nat.le_of_lt HXF.out.1.lt))
      exact Below.set2 h9 (Nat.le_succ g) _ _
end Go.Proofs.YtbjelkejifgnfaaGreatDoor
