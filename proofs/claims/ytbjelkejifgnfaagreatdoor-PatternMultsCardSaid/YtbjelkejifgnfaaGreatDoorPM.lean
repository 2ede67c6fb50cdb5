/-
  PM: by what a number is multiplied.
-/
import Derived.Test.YtbjelkejifgnfaaGreatDoorPU
import Derived.Test.YtbjelkejifgnfaaGreatDoorME
set_option maxRecDepth 100000
namespace Go.Proofs.YtbjelkejifgnfaaGreatDoor
open Go.RowKit
/-- Is an item of the kind? -/
def ofK (k : Int) (i : Itm) : Bool := decide (i.1 = k)
set_option maxHeartbeats 1000000 in
theorem hasK_c (a r k : Int) (B : Nat) (w : World) (hB : B < w.heap.size) (hc : w.cell? ⟨B, 0, none⟩ = some (.int .i64 k)) : Calls Tryz.prog 67 #[.agg #[.int .i64 a, .int .i32 r], .pointer (some ⟨B, 0, none⟩)] w fun e w' =>
    e = .returned (.bool (ofK k (a, r))) ∧ Below w.heap.size w w' := by
  have hP : ofK k (a, r) = (a == k) := rfl
  rw [hP]
  clear hP
  have hc2 : (w.alloc (.cells #[.int .i64 a, .int .i32 r] 54)).cell? ⟨B, 0, none⟩ = some (.int .i64 k) := by
    rw [← hc]
    exact ((Below.refl w.heap.size w).alloc (Nat.le_refl _) _).cell (p := ⟨B, 0, none⟩) hB
  clear hc
  go_enter Tryz.func67, Tryz.ntmps67
  go_wp2
  go_ret
  exact ⟨rfl, by go_grown⟩
set_option maxHeartbeats 2000000 in
theorem upToKind_c (k : Int) (B : Nat) (A : Option Addr) (n c : Nat) (is : List Itm) (w : World) (h : Its w A n is) (hc : n ≤ c) (hB : B < w.heap.size) (hk : w.cell? ⟨B, 0, none⟩ = some (.int .i64 k)) :
    Calls Tryz.prog 66 #[.slice A n c, .func (.func 67) #[] #[.pointer (some ⟨B, 0, none⟩)]] w fun x w' =>
      ∃ A1 n1 c1 A2 n2 c2, x = .returned (.tuple #[.slice A1 n1 c1, .slice A2 n2 c2]) ∧ Hid (0 < n2 ↔ is.any (ofK k) = true) ∧ Hid (Below w.heap.size w w') := by
  have HL := Lib.hid h.len
  have hn := h.2.1
  have H := Lib.hid h
  have HK := Lib.hid hk
  clear h hk
  go_enter Tryz.func66, Tryz.ntmps66
  go_wp2
  go_loopw [10] (fun iv wr => ∃ (k' : Nat), k' ≤ n ∧ iv = .int .i64 (k' : Int) ∧ (∀ j (hj : j < is.length), j < k' → ofK k is[j] = false) ∧ Below w.heap.size w wr) (fun iv _ => n - (intOf iv).toNat)
  case atStart => exact ⟨0, Nat.zero_le _, rfl, fun j _ hj => absurd hj (by omega), Below.refl _ _⟩
  case round =>
    obtain ⟨k', hk', rfl, hall0, hb0⟩ := hrel
    have HA := Lib.hid hall0
    have HB := Lib.hid hb0
    have HW := Lib.hid (H.out.below hb0)
    have HKr := Lib.hid ((hb0.cell (p := ⟨B, 0, none⟩) hB).trans HK.out)
    have hBr : B < wr.heap.size := Nat.lt_of_lt_of_le hB hb0.size
    clear hall0 hb0
    by_cases hlt : k' < n
    · have hks : k' < is.length := by rw [HL.out]; exact hlt
      obtain ⟨ad, rfl, hb, c0, c1, hz⟩ := HW.out.at_ hlt
      rw [im_eq hks] at c0 c1 hz
      have HP : Hid (ofK k is[k'] = ofK k ((is[k']).1, (is[k']).2)) := Lib.hid rfl
      generalize (is[k']).1 = X at c0 hz HP
      generalize (is[k']).2 = Y at c1 hz HP
      generalize hpk : ofK k (X, Y) = pk at HP
      have HPK := Lib.hid hpk
      clear hpk
      have HN := Lib.hid (show ∀ W, Below wr.heap.size wr W → ∀ (Q : Bool), ofK k (X, Y) = Q → Calls Tryz.prog 67 #[.agg #[.int .i64 X, .int .i32 Y], .pointer (some ⟨B, 0, none⟩)] W fun e w' => e = .returned (.bool Q) ∧ Below W.heap.size W w' from
        fun W hbW Q hQ => by rw [← hQ]; exact hasK_c X Y k B W (Nat.lt_of_lt_of_le hBr hbW.size) ((hbW.cell (p := ⟨B, 0, none⟩) hBr).trans HKr.out))
      cases pk
      · go_wp2_with (first
          | (go_at_call 67; refine (HN.out _ (below_new _ _) _ HPK.out).mono ?_; rintro e w1 ⟨rfl, hb1⟩)
          | fail)
        go_roundw
        case rel =>
          refine ⟨k' + 1, by omega, by go_num, fun j hj hjk => ?_, HB.out.trans (((below_new _ _).trans (hb1.mono (by simp))).mono HB.out.size)⟩
          rcases Nat.lt_or_ge j k' with h1 | h1
          · exact HA.out j hj h1
          · obtain rfl : j = k' := by omega
            rw [HP.out]
        case measure => simp [intOf]; omega
      · have HT : Hid (is.any (ofK k) = true) := Lib.hid (List.any_eq_true.2 ⟨_, List.getElem_mem hks, HP.out⟩)
        go_wp2_with (first
          | (go_at_call 67; refine (HN.out _ (below_new _ _) _ HPK.out).mono ?_; rintro e w1 ⟨rfl, hb1⟩)
          | fail)
        go_quiet (fail)
        go_wp2
        go_ret2
        rw [HT.out]
        exact ⟨_, _, _, _, _, _, rfl, Lib.hid ⟨fun _ => rfl, fun _ => by omega⟩, Lib.hid ((HB.out.trans (((below_new _ _).trans (hb1.mono (by simp))).mono HB.out.size)).of_drewN _)⟩
    · have hke : k' = n := by omega
      subst hke
      have HT : Hid (is.any (ofK k) = false) := Lib.hid (List.any_eq_false.2 fun x hx => by
        obtain ⟨j, hj, rfl⟩ := List.getElem_of_mem hx
        rw [HA.out j hj (by rw [HL.out] at hj; exact hj)]; decide)
      go_wp2
      go_ret2
      rw [HT.out]
      exact ⟨_, _, _, _, _, _, rfl, Lib.hid ⟨fun e => absurd e (by omega), fun e => absurd e (by decide)⟩, HB⟩
/-- A row of cells that hold slices of items. -/
structure Sls (w : World) (g : Nat) (L : List (Option Addr × Nat × Nat × List Itm)) : Prop where
  lt : g < w.heap.size
  at_ : ∀ j (h : j < L.length), w.cell? ⟨g, j, none⟩ = some (.slice L[j].1 L[j].2.1 L[j].2.2.1) ∧ Its w L[j].1 L[j].2.1 L[j].2.2.2 ∧ L[j].2.1 ≤ L[j].2.2.1
theorem Sls.below {w w' : World} {g : Nat} {L : List (Option Addr × Nat × Nat × List Itm)} (h : Sls w g L) (hb : Below w.heap.size w w') : Sls w' g L :=
  ⟨Nat.lt_of_lt_of_le h.lt hb.size, fun j hj => by
    obtain ⟨h1, h2, h3⟩ := h.at_ j hj
    exact ⟨(hb.cell (p := ⟨g, j, none⟩) h.lt).trans h1, h2.below hb, h3⟩⟩
set_option maxHeartbeats 2000000 in
theorem oneHas_c (k : Int) (g n c : Nat) (L : List (Option Addr × Nat × Nat × List Itm)) (w : World) (hL : L.length = n) (hn : n ≤ 1000) (h : Sls w g L) :
    Calls Tryz.prog 45 #[.int .i64 k, .slice (some ⟨g, 0, none⟩) n c] w fun x w' => x = .returned (.bool (L.any fun s => s.2.2.2.any (ofK k))) ∧ Below w.heap.size w w' := by
  have HL := Lib.hid hL
  have hgt := h.lt
  have HS := Lib.hid (h.below (below_new w (.cells #[.int .i64 k] 3)))
  have HBX := Lib.hid (BX.new w #[.int .i64 k] 3)
  have HB0 := Lib.hid (below_new w (.cells #[.int .i64 k] 3))
  clear h hL
  go_enter Tryz.func45, Tryz.ntmps45
  go_upto_region 1 with fail
  have hsz : w.heap.size < (w.alloc (.cells #[.int .i64 k] 3)).heap.size := by simp
  generalize w.alloc (.cells #[.int .i64 k] 3) = W0 at *
  generalize hB : w.heap.size = B at *
  have HBe := Lib.hid hB
  clear hB
  go_wp2
  go_loopw [11] (fun iv wr => ∃ (j : Nat), j ≤ n ∧ iv = .int .i64 (j : Int) ∧ (∀ i (hi : i < L.length), i < j → (L[i].2.2.2.any (ofK k)) = false) ∧ Below W0.heap.size W0 wr) (fun iv _ => n - (intOf iv).toNat)
  case atStart => exact ⟨0, Nat.zero_le _, rfl, fun i _ hi => absurd hi (by omega), Below.refl _ _⟩
  case round =>
    obtain ⟨j, hj, rfl, hall0, hb0⟩ := hrel
    have HA := Lib.hid hall0
    have HB := Lib.hid hb0
    have HSr := Lib.hid (HS.out.below hb0)
    have HBr := Lib.hid (HBX.out.below hb0 hsz)
    clear hall0 hb0
    by_cases hlt : j < n
    · have hjs : j < L.length := by rw [HL.out]; exact hlt
      obtain ⟨c0, hits, hcap⟩ := HSr.out.at_ j hjs
      have HC := Lib.hid (fun W (hbW : Below wr.heap.size wr W) => upToKind_c k B _ _ _ _ W (hits.below hbW) hcap (Nat.lt_of_lt_of_le HBr.out.lt hbW.size) ((hbW.cell (p := ⟨B, 0, none⟩) HBr.out.lt).trans (HBr.out.c 0)))
      have HI : Hid (L[j].2.2.2.any (ofK k) = L[j].2.2.2.any (ofK k)) := Lib.hid rfl
      clear hits hcap
      generalize L[j].1 = X1 at *
      generalize L[j].2.1 = X2 at *
      generalize L[j].2.2.1 = X3 at *
      generalize hx : L[j].2.2.2.any (ofK k) = X4 at *
      have HX := Lib.hid hx
      clear hx HI
      cases X4
      · go_wp2_with (first
          | (go_at_call 66; refine (HC.out _ (Below.refl _ _)).mono ?_; rintro e w1 ⟨A1, n1, c1, A2, n2, c2, rfl, hd, hb1⟩; obtain rfl : n2 = 0 := by have := hd.out; simpa using this)
          | fail)
        go_roundw
        case rel =>
          refine ⟨j + 1, by omega, by go_num, fun i hi hij => ?_, HB.out.trans (hb1.out.mono HB.out.size)⟩
          rcases Nat.lt_or_ge i j with h1 | h1
          · exact HA.out i hi h1
          · obtain rfl : i = j := by omega
            exact HX.out
        case measure => simp [intOf]; omega
      · go_wp2_with (first
          | (go_at_call 66; refine (HC.out _ (Below.refl _ _)).mono ?_; rintro e w1 ⟨A1, n1, c1, A2, n2, c2, rfl, hd, hb1⟩; have hd2 : 0 < n2 := hd.out.2 rfl)
          | fail)
        go_ret
        have HT : (L.any fun s => s.2.2.2.any (ofK k)) = true := List.any_eq_true.2 ⟨_, List.getElem_mem hjs, HX.out⟩
        rw [HT]
        exact ⟨rfl, HBe.out ▸ HB0.out.trans ((HB.out.trans (hb1.out.mono HB.out.size)).mono (Nat.le_of_lt hsz))⟩
    · have hje : j = n := by omega
      subst hje
      have HT : (L.any fun s => s.2.2.2.any (ofK k)) = false := List.any_eq_false.2 fun x hx => by
        obtain ⟨i, hi, rfl⟩ := List.getElem_of_mem hx
        rw [HA.out i hi (by rw [HL.out] at hi; exact hi)]; decide
      go_wp2
      go_ret
      rw [HT]
      exact ⟨rfl, HBe.out ▸ HB0.out.trans (HB.out.mono (Nat.le_of_lt hsz))⟩
/-- A pattern's cells: its affixes. -/
structure Aff (w : World) (PV : Array Value) (i0 i1 i3 i4 : List Itm) : Prop where
  sz : (Tryz.prog.info? 25).map (·.size) = some PV.size
  s0 : ∃ A n c, PV[0]? = some (.slice A n c) ∧ Its w A n i0 ∧ n ≤ c
  s1 : ∃ A n c, PV[1]? = some (.slice A n c) ∧ Its w A n i1 ∧ n ≤ c
  s3 : ∃ A n c, PV[3]? = some (.slice A n c) ∧ Its w A n i3 ∧ n ≤ c
  s4 : ∃ A n c, PV[4]? = some (.slice A n c) ∧ Its w A n i4 ∧ n ≤ c
theorem Aff.below {w w' : World} {PV : Array Value} {i0 i1 i3 i4 : List Itm} (h : Aff w PV i0 i1 i3 i4) (hb : Below w.heap.size w w') : Aff w' PV i0 i1 i3 i4 := by
  obtain ⟨sz, ⟨A0, n0, c0, e0, h0, l0⟩, ⟨A1, n1, c1, e1, h1, l1⟩, ⟨A3, n3, c3, e3, h3, l3⟩, ⟨A4, n4, c4, e4, h4, l4⟩⟩ := h
  exact ⟨sz, ⟨A0, n0, c0, e0, h0.below hb, l0⟩, ⟨A1, n1, c1, e1, h1.below hb, l1⟩, ⟨A3, n3, c3, e3, h3.below hb, l3⟩, ⟨A4, n4, c4, e4, h4.below hb, l4⟩⟩
def anyK (k : Int) (i0 i1 i3 i4 : List Itm) : Bool := i0.any (ofK k) || (i1.any (ofK k) || (i3.any (ofK k) || i4.any (ofK k)))
set_option maxHeartbeats 2000000 in
theorem affHave_c (k : Int) (PV : Array Value) (i0 i1 i3 i4 : List Itm) (w : World) (h : Aff w PV i0 i1 i3 i4) :
    Calls Tryz.prog 24 #[.int .i64 k, .agg PV] w fun x w' => x = .returned (.bool (anyK k i0 i1 i3 i4)) ∧ Below w.heap.size w w' := by
  have HAF := Lib.hid h
  obtain ⟨hsz, ⟨A0, n0, c0, e0, -, -⟩, ⟨A1, n1, c1, e1, -, -⟩, ⟨A3, n3, c3, e3, -, -⟩, ⟨A4, n4, c4, e4, -, -⟩⟩ := h
  have HE := Lib.hid (And.intro e0 (And.intro e1 (And.intro e3 e4)))
  have hbx0 := BX.new w PV 25
  have HB0 := Lib.hid (below_new w (.cells PV 25))
  have HAW := Lib.hid (HAF.out.below HB0.out)
  clear e0 e1 e3 e4 hsz
  go_enter Tryz.func24, Tryz.ntmps24
  go_upto_region 1 with fail
  generalize w.alloc (.cells PV 25) = W at *
  generalize hg : w.heap.size = g at *
  have HGe := Lib.hid hg
  have HLE := Lib.hid (show g ≤ W.heap.size from hg ▸ HB0.out.size)
  clear hg
  have d0 := (hbx0.c 0).trans HE.out.1
  have d1 := (hbx0.c 1).trans HE.out.2.1
  have d3 := (hbx0.c 3).trans HE.out.2.2.1
  have d4 := (hbx0.c 4).trans HE.out.2.2.2
  have HC : Hid (Calls Tryz.prog 45 #[.int .i64 k, .slice (some ⟨W.heap.size, 0, none⟩) 4 4] (W.alloc (.cells #[.slice A0 n0 c0, .slice A1 n1 c1, .slice A3 n3 c3, .slice A4 n4 c4] 23)) fun x w' => x = .returned (.bool (anyK k i0 i1 i3 i4)) ∧ Below (W.alloc (.cells #[.slice A0 n0 c0, .slice A1 n1 c1, .slice A3 n3 c3, .slice A4 n4 c4] 23)).heap.size (W.alloc (.cells #[.slice A0 n0 c0, .slice A1 n1 c1, .slice A3 n3 c3, .slice A4 n4 c4] 23)) w') := Lib.hid (by
    obtain ⟨-, ⟨X0, m0, l0, f0, g0, z0⟩, ⟨X1, m1, l1, f1, g1, z1⟩, ⟨X3, m3, l3, f3, g3, z3⟩, ⟨X4, m4, l4, f4, g4, z4⟩⟩ := HAW.out
    have r0 := HE.out.1.symm.trans f0
    have r1 := HE.out.2.1.symm.trans f1
    have r3 := HE.out.2.2.1.symm.trans f3
    have r4 := HE.out.2.2.2.symm.trans f4
    simp only [Option.some.injEq, Value.slice.injEq] at r0 r1 r3 r4
    obtain ⟨rfl, rfl, rfl⟩ := r0
    obtain ⟨rfl, rfl, rfl⟩ := r1
    obtain ⟨rfl, rfl, rfl⟩ := r3
    obtain ⟨rfl, rfl, rfl⟩ := r4
    have hn := BX.new W #[.slice A0 n0 c0, .slice A1 n1 c1, .slice A3 n3 c3, .slice A4 n4 c4] 23
    have hb := below_new W (.cells #[.slice A0 n0 c0, .slice A1 n1 c1, .slice A3 n3 c3, .slice A4 n4 c4] 23)
    have := oneHas_c k W.heap.size 4 4 [(A0, n0, c0, i0), (A1, n1, c1, i1), (A3, n3, c3, i3), (A4, n4, c4, i4)] _ rfl (by omega) ⟨hn.lt, fun j hj => by
      have : j = 0 ∨ j = 1 ∨ j = 2 ∨ j = 3 := by simp at hj; omega
      rcases this with rfl | rfl | rfl | rfl
      · exact ⟨hn.c 0, g0.below hb, z0⟩
      · exact ⟨hn.c 1, g1.below hb, z1⟩
      · exact ⟨hn.c 2, g3.below hb, z3⟩
      · exact ⟨hn.c 3, g4.below hb, z4⟩⟩
    refine this.mono ?_
    rintro e w' ⟨rfl, hb'⟩
    exact ⟨by simp [anyK], hb'⟩)
  have HBn := Lib.hid (below_new W (.cells #[.slice A0 n0 c0, .slice A1 n1 c1, .slice A3 n3 c3, .slice A4 n4 c4] 23))
  clear hbx0
  go_wp2_with (first
    | (go_at_call 45; refine HC.out.mono ?_; rintro e w' ⟨rfl, hb⟩)
    | fail)
  go_ret
  exact ⟨rfl, HGe.out ▸ HB0.out.trans ((HBn.out.trans (hb.mono HBn.out.size)).mono HLE.out)⟩
def mulK (i0 i1 i3 i4 : List Itm) : Int := if anyK 4 i0 i1 i3 i4 then 2 else if anyK 5 i0 i1 i3 i4 then 3 else 0
set_option maxHeartbeats 2000000 in
theorem pmult_c (PV : Array Value) (i0 i1 i3 i4 : List Itm) (w : World) (h : Aff w PV i0 i1 i3 i4) :
    Calls Tryz.prog 17 #[.agg PV] w fun x w' => x = .returned (.int .i64 (mulK i0 i1 i3 i4)) ∧ Below w.heap.size w w' := by
  generalize hm : mulK i0 i1 i3 i4 = m
  unfold mulK at hm
  have hsz := h.sz
  have hbx := BX.new w PV 25
  have HB0 := Lib.hid (below_new w (.cells PV 25))
  have HAW := Lib.hid (h.below HB0.out)
  clear h
  go_enter Tryz.func17, Tryz.ntmps17
  go_upto_region 1 with fail
  have hgw : w.heap.size < (w.alloc (.cells PV 25)).heap.size := by simp
  generalize w.alloc (.cells PV 25) = W at *
  generalize hg : w.heap.size = g at *
  have HGe := Lib.hid hg
  have HLE := Lib.hid (show g ≤ W.heap.size from hg ▸ HB0.out.size)
  clear hg
  have HC4 := Lib.hid (fun W' (hb : Below W.heap.size W W') => affHave_c 4 PV i0 i1 i3 i4 W' (HAW.out.below hb))
  have HC5 := Lib.hid (fun W' (hb : Below W.heap.size W W') => affHave_c 5 PV i0 i1 i3 i4 W' (HAW.out.below hb))
  generalize anyK 4 i0 i1 i3 i4 = a4 at *
  generalize anyK 5 i0 i1 i3 i4 = a5 at *
  have HBX := Lib.hid hbx
  cases a4
  · cases a5
    · obtain rfl : (0 : Int) = m := hm
      go_wp2_with (first
        | (refine wpList_load_row rfl 25 _ rfl g rfl 25 PV (0, 0) _ hbx Tryz.underlying25 rfl hsz ?_)
        | (go_at_call 24; with_reducible refine (HC4.out _ (Below.refl _ _)).mono ?_; rintro e w1 ⟨rfl, hb1⟩; have HB1 := Lib.hid hb1; clear hbx; have hbx := HBX.out.below hb1 hgw; clear hb1)
        | (go_at_call 24; with_reducible refine (HC5.out _ HB1.out).mono ?_; rintro e w2 ⟨rfl, hb2⟩)
        | fail)
      go_ret
      exact ⟨rfl, HGe.out ▸ HB0.out.trans ((HB1.out.trans (hb2.mono HB1.out.size)).mono HLE.out)⟩
    · obtain rfl : (3 : Int) = m := hm
      go_wp2_with (first
        | (refine wpList_load_row rfl 25 _ rfl g rfl 25 PV (0, 0) _ hbx Tryz.underlying25 rfl hsz ?_)
        | (go_at_call 24; with_reducible refine (HC4.out _ (Below.refl _ _)).mono ?_; rintro e w1 ⟨rfl, hb1⟩; have HB1 := Lib.hid hb1; clear hbx; have hbx := HBX.out.below hb1 hgw; clear hb1)
        | (go_at_call 24; with_reducible refine (HC5.out _ HB1.out).mono ?_; rintro e w2 ⟨rfl, hb2⟩)
        | fail)
      go_ret
      exact ⟨rfl, HGe.out ▸ HB0.out.trans ((HB1.out.trans (hb2.mono HB1.out.size)).mono HLE.out)⟩
  · obtain rfl : (2 : Int) = m := hm
    go_wp2_with (first
      | (refine wpList_load_row rfl 25 _ rfl g rfl 25 PV (0, 0) _ hbx Tryz.underlying25 rfl hsz ?_)
      | (go_at_call 24; with_reducible refine (HC4.out _ (Below.refl _ _)).mono ?_; rintro e w1 ⟨rfl, hb1⟩)
      | fail)
    go_ret
    exact ⟨rfl, HGe.out ▸ HB0.out.trans (hb1.mono HLE.out)⟩
end Go.Proofs.YtbjelkejifgnfaaGreatDoor
