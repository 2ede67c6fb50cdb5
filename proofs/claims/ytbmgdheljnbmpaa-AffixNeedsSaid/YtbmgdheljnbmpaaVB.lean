/-
  VB: affix's has, Needs, item, tell.
-/
import Derived.Test.YtbmgdheljnbmpaaTF
import Derived.Test.YtbmgdheljnbmpaaVA
set_option maxRecDepth 100000
namespace Go.Proofs.Ytbmgdheljnbmpaa
open Go.RowKit
/-- A block of cells. -/
def BX (w : World) (g : Nat) (vs : Array Value) (T : TypeId) : Prop := w.heap[g]? = some (.cells vs T (0, 0))
section
variable {w w' : World} {g : Nat} {vs : Array Value} {T : TypeId}
theorem BX.c (h : BX w g vs T) (j : Nat) : w.cell? ⟨g, j, none⟩ = vs[j]? := by rw [cell_of_row w g j _ _ _ h]
theorem BX.v {v : Value} (h : BX w g vs T) (j : Nat) (hv : vs[j]? = some v) : w.cell? ⟨g, j, none⟩ = some v := (h.c j).trans hv
theorem BX.fr (h : BX w g vs T) (k : Nat) : w.frozen? ⟨g, k, none⟩ = false := by simp [World.frozen?, show w.heap[g]? = _ from h]
theorem BX.below {B : Nat} (h : BX w g vs T) (hb : Below B w w') (hg : g < B) : BX w' g vs T := (hb.block g hg).trans h
theorem BX.new (w : World) (vs : Array Value) (T : TypeId) : BX (w.alloc (.cells vs T)) w.heap.size vs T := heap_alloc_new w _
theorem BX.lt (h : BX w g vs T) : g < w.heap.size := (Array.getElem?_eq_some_iff.1 h).1
theorem BX.alloc (h : BX w g vs T) (o : Obj) : BX (w.alloc o) g vs T := (heap_alloc_old w o h.lt).trans h
theorem BX.set2 {x y : Value} (h : BX w g #[x, y] T) (x' y' : Value) : BX ((w.setCell ⟨g, 0, none⟩ x').setCell ⟨g, 1, none⟩ y') g #[x', y'] T :=
  heap_setCell_same _ g 1 _ _ y' (heap_setCell_same w g 0 _ _ x' h)
theorem BX.set3 {x y z : Value} (h : BX w g #[x, y, z] T) (x' y' z' : Value) : BX (((w.setCell ⟨g, 0, none⟩ x').setCell ⟨g, 1, none⟩ y').setCell ⟨g, 2, none⟩ z') g #[x', y', z'] T :=
  heap_setCell_same _ g 2 _ _ z' (heap_setCell_same _ g 1 _ _ y' (heap_setCell_same w g 0 _ _ x' h))
theorem Below.set3 {B : Nat} (h : Below B w w') (hg : B ≤ g) (x' y' z' : Value) : Below B w (((w'.setCell ⟨g, 0, none⟩ x').setCell ⟨g, 1, none⟩ y').setCell ⟨g, 2, none⟩ z') :=
  (Below.set2 h hg x' y').setCell (p := ⟨g, 2, none⟩) hg _
end
theorem ints_mem {x : Nat} {cs : List Nat} : ((x : Nat) : Int) ∈ ints cs ↔ x ∈ cs := by
  constructor
  · intro h
    obtain ⟨y, hy, e⟩ := List.mem_map.1 h
    rwa [← Int.ofNat_inj.1 e]
  · exact fun h => List.mem_map.2 ⟨x, h, rfl⟩
set_option maxHeartbeats 1000000 in
theorem has_c (s : ByteArray) (cs : List Nat) (hs : stz (encs cs) = s) (hc : allC cs = true) (r : Int) (w : World) : Calls Try.prog 23 #[.string s, .int .i32 r] w fun e w' =>
    e = .returned (.bool (decide (r ∈ ints cs))) ∧ Below w.heap.size w w' := by
  have hcp : cps (bts s) = cs ∧ rst (bts s) = [] := by rw [← hs, bts_stz (encs_lt hc)]; exact ⟨cps_encs hc, rst_encs hc⟩
  have HCP := Lib.hid hcp
  clear hcp hs
  generalize hg : w.heap.size = g at *
  have Hg := Lib.hid hg
  clear hg
  have B0 := Lib.hid (show Below g w w by rw [← Hg.out]; exact Below.refl _ _)
  go_enter Try.func23, Try.ntmps23
  go_wp2
  rw [Hg.out]
  go_loopw [] (fun wr => ∃ (p : Nat) (ds : List Nat), Upto s p ds ∧ wr.heap[g]? = some (.stringIter s p) ∧ (∀ x ∈ ds, r ≠ (x : Int)) ∧ Below g w wr) (fun wr => s.size - wr.iterPos g)
  case atStart =>
    refine ⟨0, [], Upto.zero s, ?_, fun x hx => absurd hx (by simp), B0.out.alloc (by rw [Hg.out]; exact Nat.le_refl _) _⟩
    rw [← Hg.out]; exact heap_alloc_new w _
  case round =>
    obtain ⟨p, ds, hu0, hit0, hds0, hb0⟩ := hrel
    have HU := Lib.hid hu0
    have HIT := Lib.hid hit0
    have HD := Lib.hid hds0
    have HB := Lib.hid hb0
    have hple := hu0.1
    have hpos0 : wr.iterPos g = p := by simp [World.iterPos, hit0]
    have HPOS := Lib.hid hpos0
    clear hu0 hit0 hds0 hb0 hpos0
    by_cases hlt : p < s.size
    · have hnx := Lib.run_next_any_at (P := Try.prog) wr g s p 0 HIT.out hlt
      rcases hf : fstN ((bts s).drop p) with _ | c
      · exact absurd HCP.out.2 (HU.out.here hlt hf).2.1
      · obtain ⟨hcc, hu1, hd, hw1⟩ := HU.out.step hf
        rw [hd] at hnx
        have HU1 := Lib.hid hu1
        have HBQ := Lib.hid (Lib.below_iterAt HB.out (Nat.le_refl g) s (p + (encN c).length))
        have HITQ := Lib.hid (Lib.iterAt_heap wr g s p (p + (encN c).length) HIT.out)
        have hcle := isC_le hcc
        clear hu1 hd hf hcc
        by_cases hr : (c : Int) = r
        · subst hr
          have HM := Lib.hid (show decide (((c : Nat) : Int) ∈ ints cs) = true by
            rw [decide_eq_true_iff, ints_mem]
            have e := HU1.out.scan.1
            rw [HCP.out.1] at e
            rw [e]; simp)
          go_wp2
          go_ret
          rw [HM.out]
          exact ⟨rfl, HBQ.out⟩
        · have g1 : ((c : Int) == r) = false := by simpa using hr
          have HR := Lib.hid (Ne.symm hr)
          clear hr
          go_wp2
          go_roundw
          case rel =>
            refine ⟨_, _, HU1.out, HITQ.out, fun x hx => ?_, HBQ.out⟩
            rcases List.mem_append.1 hx with hx | hx
            · exact HD.out x hx
            · rw [List.mem_singleton] at hx; subst hx; exact HR.out
          case measure =>
            have e1 : (wr.iterAt g s (p + (encN c).length)).iterPos g = p + (encN c).length := by simp [World.iterPos, HITQ.out]
            rw [HPOS.out, e1]; omega
    · have hnx := Lib.run_next_end_at (P := Try.prog) wr g s p 0 HIT.out hlt
      have HM := Lib.hid (show decide (r ∈ ints cs) = false by
        rw [decide_eq_false_iff_not]
        intro hm
        obtain ⟨x, hx, e⟩ := List.mem_map.1 hm
        have e2 := (HU.out.end_ hlt).1
        rw [HCP.out.1] at e2
        rw [e2] at hx
        exact HD.out x hx e.symm)
      go_wp2
      go_ret
      rw [HM.out]
      exact ⟨rfl, HB.out⟩
theorem hasS_c (r : Int) (w : World) : Calls Try.prog 23 #[.string ⟨#[45, 43, 37, 226, 128, 176, 194, 164]⟩, .int .i32 r] w fun e w' => e = .returned (.bool (decide (r ∈ ints sgs))) ∧ Below w.heap.size w w' :=
  has_c sgB sgs sgB_eq (by decide) r w
theorem hasM_c (r : Int) (w : World) : Calls Try.prog 23 #[.string ⟨#[35, 48, 49, 50, 51, 52, 53, 54, 55, 56, 57, 64, 44, 46, 59, 42]⟩, .int .i32 r] w fun e w' => e = .returned (.bool (mrk r)) ∧ Below w.heap.size w w' :=
  has_c mkB mks mkB_eq (by decide) r w
theorem hasO_c (r : Int) (w : World) : Calls Try.prog 23 #[.string ⟨#[69, 39]⟩, .int .i32 r] w fun e w' => e = .returned (.bool (decide (r ∈ ints oth))) ∧ Below w.heap.size w w' :=
  has_c otB oth otB_eq (by decide) r w
set_option maxHeartbeats 1000000 in
theorem needs_c (r : Int) (w : World) : Calls Try.prog 19 #[.int .i32 r] w fun e w' => e = .returned (.bool (nds r)) ∧ Below w.heap.size w w' := by
  have C1 := Lib.hid (hasS_c r)
  have C2 := Lib.hid (hasM_c r)
  have C3 := Lib.hid (hasO_c r)
  unfold nds
  generalize decide (r ∈ ints sgs) = a at *
  generalize mrk r = b at *
  generalize decide (r ∈ ints oth) = c at *
  cases a
  · cases b
    · go_enter Try.func19, Try.ntmps19
      go_wp2_with fail
      refine (C1.out _).mono ?_
      rintro e w1 ⟨rfl, hb1⟩
      have B1 := Lib.hid hb1
      clear hb1
      go_wp2_with fail
      refine (C2.out _).mono ?_
      rintro e w2 ⟨rfl, hb2⟩
      have B2 := Lib.hid (B1.out.trans (hb2.mono B1.out.size))
      clear hb2
      go_wp2_with fail
      refine (C3.out _).mono ?_
      rintro e w3 ⟨rfl, hb3⟩
      have B3 := Lib.hid (B2.out.trans (hb3.mono B2.out.size))
      clear hb3
      go_wp2
      go_ret
      exact ⟨rfl, B3.out⟩
    · go_enter Try.func19, Try.ntmps19
      go_wp2_with fail
      refine (C1.out _).mono ?_
      rintro e w1 ⟨rfl, hb1⟩
      have B1 := Lib.hid hb1
      clear hb1
      go_wp2_with fail
      refine (C2.out _).mono ?_
      rintro e w2 ⟨rfl, hb2⟩
      have B2 := Lib.hid (B1.out.trans (hb2.mono B1.out.size))
      clear hb2
      go_wp2
      go_ret
      exact ⟨rfl, B2.out⟩
  · go_enter Try.func19, Try.ntmps19
    go_wp2_with fail
    refine (C1.out _).mono ?_
    rintro e w1 ⟨rfl, hb1⟩
    have B1 := Lib.hid hb1
    clear hb1
    go_wp2
    go_ret
    exact ⟨rfl, B1.out⟩
set_option maxHeartbeats 1000000 in
theorem item_c (r : Int) (q : Bool) (a : Int) (w : World) : Calls Try.prog 24 #[.agg #[.int .i32 r, .bool q, .int .i64 a]] w fun e w' =>
    e = .returned (.agg #[.int .i64 (itm (r, q, a)).1, .int .i32 (itm (r, q, a)).2]) ∧ Below w.heap.size w w' := by
  generalize hg : w.heap.size = g at *
  have Hg := Lib.hid hg
  clear hg
  have A0 := (BX.new w #[.int .i32 r, .bool q, .int .i64 a] 36).alloc (.cells #[.int .i64 0, .int .i32 0] 43)
  have A1 := BX.new (w.alloc (.cells #[.int .i32 r, .bool q, .int .i64 a] 36)) #[.int .i64 0, .int .i32 0] 43
  rw [World.size_alloc, Hg.out] at A1
  rw [Hg.out] at A0
  have B1 := Lib.hid ((Below.refl (g + 1 + 1) ((w.alloc (.cells #[.int .i32 r, .bool q, .int .i64 a] 36)).alloc (.cells #[.int .i64 0, .int .i32 0] 43))))
  have B0 := Lib.hid (((Below.refl g w).alloc (by rw [Hg.out]; exact Nat.le_refl _) (.cells #[.int .i32 r, .bool q, .int .i64 a] 36)).alloc (by rw [World.size_alloc, Hg.out]; omega) (.cells #[.int .i64 0, .int .i32 0] 43))
  have S1 : ((w.alloc (.cells #[.int .i32 r, .bool q, .int .i64 a] 36)).alloc (.cells #[.int .i64 0, .int .i32 0] 43)).heap.size = g + 1 + 1 := by rw [World.size_alloc, World.size_alloc, Hg.out]
  have S1 := Lib.hid S1
  have A0 := Lib.hid A0
  have A1 := Lib.hid A1
  go_enter Try.func24, Try.ntmps24
  go_wp2
  rw [Hg.out]
  go_loopw [3] (fun kv wr => ∃ (k : Nat), k ≤ 5 ∧ kv = .int .i64 (2 + (k : Int)) ∧ wr.heap[g + 1 + 1]? = some (.stringIter sgB (sgo k)) ∧ (q = false → ∀ j, j < k → r ≠ ((sgn j : Nat) : Int)) ∧ Below (g + 1 + 1) ((w.alloc (.cells #[.int .i32 r, .bool q, .int .i64 a] 36)).alloc (.cells #[.int .i64 0, .int .i32 0] 43)) wr) (fun _ wr => sgB.size - wr.iterPos (g + 1 + 1))
  case atStart =>
    refine ⟨0, by omega, rfl, ?_, fun _ j hj => absurd hj (by omega), B1.out.alloc (by rw [S1.out]; exact Nat.le_refl _) _⟩
    rw [← S1.out]; exact heap_alloc_new _ _
  case round =>
    obtain ⟨k, hk, rfl, hit0, hno0, hb0⟩ := hrel
    have HIT := Lib.hid hit0
    have HN := Lib.hid hno0
    have HB := Lib.hid hb0
    have hpos0 : wr.iterPos (g + 1 + 1) = sgo k := by simp [World.iterPos, hit0]
    have HPOS := Lib.hid hpos0
    have cA0 : wr.cell? ⟨g, 0, none⟩ = some (.int .i32 r) := (A0.out.below hb0 (by omega)).c 0
    have cA1 : wr.cell? ⟨g, 1, none⟩ = some (.bool q) := (A0.out.below hb0 (by omega)).c 1
    by_cases hlt : k < 5
    · obtain ⟨hd, hsz, hnx1, hle, hps⟩ := sg_step hlt
      have hnx := Lib.run_next_any_at (P := Try.prog) wr (g + 1 + 1) sgB (sgo k) 0 HIT.out hsz
      rw [hd] at hnx
      dsimp only at hnx
      rw [hnx1] at hnx
      have HBQ0 := Lib.below_iterAt HB.out (Nat.le_refl (g + 1 + 1)) sgB (sgo (k + 1))
      have HBQ := Lib.hid HBQ0
      have HITQ := Lib.hid (Lib.iterAt_heap wr (g + 1 + 1) sgB (sgo k) (sgo (k + 1)) HIT.out)
      have HK := Lib.hid (sgK_sgn hlt)
      have d0 : (wr.iterAt (g + 1 + 1) sgB (sgo (k + 1))).cell? ⟨g, 0, none⟩ = some (.int .i32 r) := (A0.out.below HBQ0 (by omega)).c 0
      have d1 : (wr.iterAt (g + 1 + 1) sgB (sgo (k + 1))).cell? ⟨g, 1, none⟩ = some (.bool q) := (A0.out.below HBQ0 (by omega)).c 1
      have FX := A1.out.below HBQ0 (by omega)
      have hm : sgB.size - sgo (k + 1) < sgB.size - sgo k := by omega
      have HM := Lib.hid hm
      clear hit0 hno0 hb0 hpos0 hm hd hnx1 hps HBQ0 cA0 cA1
      generalize hW : wr.iterAt (g + 1 + 1) sgB (sgo (k + 1)) = W at *
      have HW := Lib.hid hW
      have e1 : W.iterPos (g + 1 + 1) = sgo (k + 1) := by simp [World.iterPos, HITQ.out]
      have E1 := Lib.hid e1
      clear hW e1
      generalize hp : sgo (k + 1) = p1 at *
      have HP := Lib.hid hp
      clear hp
      generalize hs : sgn k = sk at *
      have HS := Lib.hid hs
      clear hs
      cases q
      · by_cases hr : (sk : Int) = r
        · subst hr
          have FE := FX.set2 (.int .i64 (2 + (k : Int))) (.int .i32 0)
          have e0 := FE.v 0 rfl
          have e1 := FE.v 1 rfl
          have BE := Lib.hid (Below.set2 (B0.out.trans (HBQ.out.mono (by omega))) (show g ≤ g + 1 by omega) (.int .i64 (2 + (k : Int))) (.int .i32 0))
          have f0 := FX.v 0 rfl
          have f1 := FX.v 1 rfl
          have f2 := FX.fr 0
          have f3 := FX.fr 1
          have HV := Lib.hid (show itm ((sk : Int), false, a) = (2 + (k : Int), 0) by rw [itm_s rfl (by dsimp only; rw [HK.out]; omega)]; dsimp only; rw [HK.out])
          clear FE FX
          go_wp2
          generalize hWE : (W.setCell ⟨g + 1, 0, none⟩ (.int .i64 (2 + (k : Int)))).setCell ⟨g + 1, 1, none⟩ (.int .i32 0) = WE at *
          rw [HV.out]
          exact bodyPost_ret (v := .agg #[.int .i64 (2 + (k : Int)), .int .i32 0]) (by simp [results, Try.results24, go_sem, e0, e1]) rfl ⟨rfl, BE.out⟩
        · have g1 : ((sk : Int) == r) = false := by simpa using hr
          have HR := Lib.hid (Ne.symm hr)
          clear hr FX
          go_wp2
          go_roundw
          case rel =>
            refine ⟨k + 1, by omega, by go_num, by rw [HP.out]; exact HITQ.out, fun _ j hj => ?_, HBQ.out⟩
            rcases Nat.lt_or_ge j k with hjk | hjk
            · exact HN.out rfl j hjk
            · obtain rfl : j = k := by omega
              rw [HS.out]; exact HR.out
          case measure => rw [HPOS.out, E1.out]; exact HM.out
      · clear FX
        go_wp2
        go_roundw
        case rel => exact ⟨k + 1, by omega, by go_num, by rw [HP.out]; exact HITQ.out, (fun h => by cases h), HBQ.out⟩
        case measure => rw [HPOS.out, E1.out]; exact HM.out
    · obtain rfl : k = 5 := by omega
      have hnx := Lib.run_next_end_at (P := Try.prog) wr (g + 1 + 1) sgB (sgo 5) 0 HIT.out sg_end
      have FX := A1.out.below hb0 (by omega)
      have FE := FX.set2 (.int .i64 1) (.int .i32 r)
      have e0 := FE.v 0 rfl
      have e1 := FE.v 1 rfl
      have BE := Lib.hid (Below.set2 (B0.out.trans (HB.out.mono (by omega))) (show g ≤ g + 1 by omega) (.int .i64 1) (.int .i32 r))
      have f0 := FX.v 0 rfl
      have f1 := FX.v 1 rfl
      have f2 := FX.fr 0
      have f3 := FX.fr 1
      have HV := Lib.hid (show itm (r, q, a) = (1, r) by
        cases q
        · exact itm_p (sgK_none fun j hj => HN.out rfl j hj)
        · exact itm_q rfl)
      clear FE FX hit0 hno0 hb0 hpos0
      go_wp2
      generalize hWE : (wr.setCell ⟨g + 1, 0, none⟩ (.int .i64 1)).setCell ⟨g + 1, 1, none⟩ (.int .i32 r) = WE at *
      rw [HV.out]
      exact bodyPost_ret (v := .agg #[.int .i64 1, .int .i32 r]) (by simp [results, Try.results24, go_sem, e0, e1]) rfl ⟨rfl, BE.out⟩
/-- What tell answers of an item. -/
def tlI (i : Itm) : Tok := if mayI i then tkI i else (0, false, 0)
theorem tlI_may {i : Itm} (h : mayI i = true) : tlI i = tkI i := by rw [tlI, if_pos h]
theorem tlI_no {i : Itm} (h : mayI i = false) : tlI i = (0, false, 0) := by rw [tlI, if_neg (by rw [h]; decide)]
set_option maxHeartbeats 1000000 in
theorem tellLit_c (r : Int) (w : World) (hz : isZ r = true) : Calls Try.prog 25 #[.agg #[.int .i64 1, .int .i32 r]] w fun e w' =>
    e = .returned (.tuple #[.agg #[.int .i32 r, .bool (nds r), .int .i64 0], .bool true]) ∧ Below w.heap.size w w' := by
  have CZ := Lib.hid (utfScalar_c r)
  rw [hz] at CZ
  have CN := Lib.hid (needs_c r)
  generalize nds r = N at *
  clear hz
  generalize hg : w.heap.size = g at *
  have Hg := Lib.hid hg
  clear hg
  have A0 := (BX.new w #[.int .i64 1, .int .i32 r] 43).alloc (.cells #[.int .i32 0, .bool false, .int .i64 0] 36)
  have A1 := BX.new (w.alloc (.cells #[.int .i64 1, .int .i32 r] 43)) #[.int .i32 0, .bool false, .int .i64 0] 36
  rw [World.size_alloc, Hg.out] at A1
  rw [Hg.out] at A0
  have B0 := (((Below.refl g w).alloc (by rw [Hg.out]; exact Nat.le_refl _) (.cells #[.int .i64 1, .int .i32 r] 43)).alloc (by rw [World.size_alloc, Hg.out]; omega) (.cells #[.int .i32 0, .bool false, .int .i64 0] 36))
  have S1 : ((w.alloc (.cells #[.int .i64 1, .int .i32 r] 43)).alloc (.cells #[.int .i32 0, .bool false, .int .i64 0] 36)).heap.size = g + 1 + 1 := by rw [World.size_alloc, World.size_alloc, Hg.out]
  generalize hW : ((w.alloc (.cells #[.int .i64 1, .int .i32 r] 43)).alloc (.cells #[.int .i32 0, .bool false, .int .i64 0] 36)) = W at *
  have HW := Lib.hid hW
  clear hW
  have S1 := Lib.hid S1
  have B0 := Lib.hid B0
  have c0 : W.cell? ⟨g, 0, none⟩ = some (.int .i64 1) := A0.c 0
  have c1 : W.cell? ⟨g, 1, none⟩ = some (.int .i32 r) := A0.c 1
  have A0 := Lib.hid A0
  have A1 := Lib.hid A1
  go_enter Try.func25, Try.ntmps25
  go_wp2_with fail
  rw [HW.out, Hg.out]
  refine (CZ.out W).mono ?_
  rintro e w1 ⟨rfl, rfl⟩
  have hgs0 : g < W.drew.heap.size := by show g < W.heap.size; have := S1.out; omega
  have hgs : g + 1 < W.drew.heap.size := by show g + 1 < W.heap.size; have := S1.out; omega
  have hgl : g ≤ W.drew.heap.size := by show g ≤ W.heap.size; have := S1.out; omega
  have A1d : Hid (BX W.drew (g + 1) #[.int .i32 0, .bool false, .int .i64 0] 36) := Lib.hid A1.out
  have B0d := Lib.hid B0.out.drew
  go_wp2
  go_region_with (go_at_call 19; refine (CN.out _).mono ?_; rintro e W5 ⟨rfl, hb5⟩; have c5 : W5.cell? ⟨g, 1, none⟩ = some (.int .i32 r) := (hb5.cell (p := ⟨g, 1, none⟩) hgs0).trans c1; have F5 := A1d.out.below hb5 hgs; have B5 := Lib.hid (B0d.out.trans (hb5.mono hgl)); have f0 : W5.cell? ⟨g + 1, 0, none⟩ = some (.int .i32 0) := F5.c 0; have f1 : W5.cell? ⟨g + 1, 1, none⟩ = some (.bool false) := F5.c 1; have f2 : W5.cell? ⟨g + 1, 2, none⟩ = some (.int .i64 0) := F5.c 2; have f3 := F5.fr 0; have f4 := F5.fr 1; have f5 := F5.fr 2; have F5 := Lib.hid F5; clear hb5)
  all_goals
    have FE := F5.out.set3 (.int .i32 r) (.bool N) (.int .i64 0)
    have e0 := FE.v 0 rfl
    have e1 := FE.v 1 rfl
    have e2 := FE.v 2 rfl
    have BE := Lib.hid (Below.set3 B5.out (show g ≤ g + 1 by omega) (.int .i32 r) (.bool N) (.int .i64 0))
    clear FE
    go_wp2
    generalize hWE : ((W5.setCell ⟨g + 1, 0, none⟩ (.int .i32 r)).setCell ⟨g + 1, 1, none⟩ (.bool N)).setCell ⟨g + 1, 2, none⟩ (.int .i64 0) = WE at *
    exact bodyPost_ret (v := .tuple #[.agg #[.int .i32 r, .bool N, .int .i64 0], .bool true]) (by simp [results, Try.results25, go_sem, e0, e1, e2]) rfl ⟨rfl, BE.out⟩
set_option maxHeartbeats 1000000 in
theorem tellSign_c (a r : Int) (w : World) (hno : a = 1 → isZ r = false) : Calls Try.prog 25 #[.agg #[.int .i64 a, .int .i32 r]] w fun e w' =>
    e = .returned (.tuple #[.agg #[.int .i32 (tlI (a, r)).1, .bool (tlI (a, r)).2.1, .int .i64 (tlI (a, r)).2.2], .bool (mayI (a, r))]) ∧ Below w.heap.size w w' := by
  have HNO := Lib.hid hno
  clear hno
  generalize hg : w.heap.size = g at *
  have Hg := Lib.hid hg
  clear hg
  have A0 := (BX.new w #[.int .i64 a, .int .i32 r] 43).alloc (.cells #[.int .i32 0, .bool false, .int .i64 0] 36)
  have A1 := BX.new (w.alloc (.cells #[.int .i64 a, .int .i32 r] 43)) #[.int .i32 0, .bool false, .int .i64 0] 36
  rw [World.size_alloc, Hg.out] at A1
  rw [Hg.out] at A0
  have B0 := (((Below.refl g w).alloc (by rw [Hg.out]; exact Nat.le_refl _) (.cells #[.int .i64 a, .int .i32 r] 43)).alloc (by rw [World.size_alloc, Hg.out]; omega) (.cells #[.int .i32 0, .bool false, .int .i64 0] 36))
  have S1 : ((w.alloc (.cells #[.int .i64 a, .int .i32 r] 43)).alloc (.cells #[.int .i32 0, .bool false, .int .i64 0] 36)).heap.size = g + 1 + 1 := by rw [World.size_alloc, World.size_alloc, Hg.out]
  generalize hW : ((w.alloc (.cells #[.int .i64 a, .int .i32 r] 43)).alloc (.cells #[.int .i32 0, .bool false, .int .i64 0] 36)) = W at *
  have HW := Lib.hid hW
  clear hW
  have B1 := Lib.hid (Below.refl (g + 1 + 1) W)
  have c0 : W.cell? ⟨g, 0, none⟩ = some (.int .i64 a) := A0.c 0
  have c1 : W.cell? ⟨g, 1, none⟩ = some (.int .i32 r) := A0.c 1
  have A0 := Lib.hid A0
  have A1 := Lib.hid A1
  have S1 := Lib.hid S1
  have B0 := Lib.hid B0
  by_cases ha : a = 1
  · have ga : (a == 1) = true := by simpa using ha
    have CZ := Lib.hid (utfScalar_c r)
    rw [HNO.out ha] at CZ
    clear ha
    go_enter Try.func25, Try.ntmps25
    go_wp2_with fail
    rw [HW.out, Hg.out]
    refine (CZ.out W).mono ?_
    rintro e w1 ⟨rfl, rfl⟩
    go_wp2
    have HAR : Hid (a = 1 → isZ r = false) := HNO
    go_loopw [4] (fun kv wr => ∃ (k : Nat), k ≤ 5 ∧ kv = .int .i64 (2 + (k : Int)) ∧ wr.heap[g + 1 + 1]? = some (.stringIter sgB (sgo k)) ∧ (∀ j : Nat, j < k → ¬ (a = 2 + (j : Int) ∧ r = 0)) ∧ Below (g + 1 + 1) W wr) (fun _ wr => sgB.size - wr.iterPos (g + 1 + 1))
    case atStart =>
      refine ⟨0, by omega, rfl, ?_, fun j hj => absurd hj (by omega), B1.out.alloc (by rw [S1.out]; exact Nat.le_refl _) _⟩
      rw [← S1.out]; exact heap_alloc_new _ _
    case round =>
      obtain ⟨k, hk, rfl, hit0, hno0, hb0⟩ := hrel
      have HIT := Lib.hid hit0
      have HN := Lib.hid hno0
      have HB := Lib.hid hb0
      have hpos0 : wr.iterPos (g + 1 + 1) = sgo k := by simp [World.iterPos, hit0]
      have HPOS := Lib.hid hpos0
      by_cases hlt : k < 5
      · obtain ⟨hd, hsz, hnx1, hle, hps⟩ := sg_step hlt
        have hnx := Lib.run_next_any_at (P := Try.prog) wr (g + 1 + 1) sgB (sgo k) 0 HIT.out hsz
        rw [hd] at hnx
        dsimp only at hnx
        rw [hnx1] at hnx
        have HBQ0 := Lib.below_iterAt HB.out (Nat.le_refl (g + 1 + 1)) sgB (sgo (k + 1))
        have HBQ := Lib.hid HBQ0
        have HITQ := Lib.hid (Lib.iterAt_heap wr (g + 1 + 1) sgB (sgo k) (sgo (k + 1)) HIT.out)
        have d0 : (wr.iterAt (g + 1 + 1) sgB (sgo (k + 1))).cell? ⟨g, 0, none⟩ = some (.int .i64 a) := (A0.out.below HBQ0 (by omega)).c 0
        have d1 : (wr.iterAt (g + 1 + 1) sgB (sgo (k + 1))).cell? ⟨g, 1, none⟩ = some (.int .i32 r) := (A0.out.below HBQ0 (by omega)).c 1
        have FX := A1.out.below HBQ0 (by omega)
        have hm : sgB.size - sgo (k + 1) < sgB.size - sgo k := by omega
        have HM := Lib.hid hm
        clear hit0 hno0 hb0 hpos0 hm hd hnx1 hps HBQ0
        generalize hW : wr.iterAt (g + 1 + 1) sgB (sgo (k + 1)) = W1 at *
        have e1 : W1.iterPos (g + 1 + 1) = sgo (k + 1) := by simp [World.iterPos, HITQ.out]
        have E1 := Lib.hid e1
        have HWQ := Lib.hid hW
        clear hW e1
        generalize hp : sgo (k + 1) = p1 at *
        have HP := Lib.hid hp
        clear hp
        by_cases hak : a = 2 + (k : Int)
        · by_cases hr0 : r = 0
          · subst hak hr0
            have HV := Lib.hid (show tlI (2 + (k : Int), 0) = (((sgn k : Nat) : Int), false, 0) ∧ mayI (2 + (k : Int), 0) = true by
              have hm : mayI (2 + (k : Int), 0) = true := mayI_iff.2 (.inr ⟨by omega, by omega, rfl⟩)
              rw [tlI_may hm, tkI_sign]; exact ⟨rfl, hm⟩)
            generalize sgn k = sk at *
            have FE := FX.set3 (.int .i32 (sk : Int)) (.bool false) (.int .i64 0)
            have e0 := FE.v 0 rfl
            have e1 := FE.v 1 rfl
            have e2 := FE.v 2 rfl
            have BE := Lib.hid (Below.set3 (B0.out.trans (HBQ.out.mono (by omega))) (show g ≤ g + 1 by omega) (.int .i32 (sk : Int)) (.bool false) (.int .i64 0))
            have f0 := FX.v 0 rfl
            have f1 := FX.v 1 rfl
            have f2 := FX.v 2 rfl
            have f3 := FX.fr 0
            have f4 := FX.fr 1
            have f5 := FX.fr 2
            clear FE FX
            go_wp2
            generalize hWE : ((W1.setCell ⟨g + 1, 0, none⟩ (.int .i32 (sk : Int))).setCell ⟨g + 1, 1, none⟩ (.bool false)).setCell ⟨g + 1, 2, none⟩ (.int .i64 0) = WE at *
            rw [HV.out.1, HV.out.2]
            exact bodyPost_ret (v := .tuple #[.agg #[.int .i32 (sk : Int), .bool false, .int .i64 0], .bool true]) (by simp [results, Try.results25, go_sem, e0, e1, e2]) rfl ⟨rfl, BE.out⟩
          · have g2 : (r == 0) = false := by simpa using hr0
            have HR := Lib.hid hr0
            subst hak
            clear hr0 FX
            go_wp2
            go_roundw
            case rel =>
              refine ⟨k + 1, by omega, by go_num, by rw [HP.out]; exact HITQ.out, fun j hj => ?_, HBQ.out⟩
              exact fun e => HR.out e.2
            case measure => rw [HPOS.out, E1.out]; exact HM.out
        · have g2 : (a == 2 + (k : Int)) = false := by simpa using hak
          have HR := Lib.hid hak
          clear hak FX
          go_wp2
          go_roundw
          case rel =>
            refine ⟨k + 1, by omega, by go_num, by rw [HP.out]; exact HITQ.out, fun j hj => ?_, HBQ.out⟩
            rcases Nat.lt_or_ge j k with hjk | hjk
            · exact HN.out j hjk
            · obtain rfl : j = k := by omega
              exact fun e => HR.out e.1
          case measure => rw [HPOS.out, E1.out]; exact HM.out
      · obtain rfl : k = 5 := by omega
        have hnx := Lib.run_next_end_at (P := Try.prog) wr (g + 1 + 1) sgB (sgo 5) 0 HIT.out sg_end
        have FX := A1.out.below hb0 (by omega)
        have FE := FX.set3 (.int .i32 0) (.bool false) (.int .i64 0)
        have e0 := FE.v 0 rfl
        have e1 := FE.v 1 rfl
        have e2 := FE.v 2 rfl
        have BE := Lib.hid (Below.set3 (B0.out.trans (HB.out.mono (by omega))) (show g ≤ g + 1 by omega) (.int .i32 0) (.bool false) (.int .i64 0))
        have f0 := FX.v 0 rfl
        have f1 := FX.v 1 rfl
        have f2 := FX.v 2 rfl
        have f3 := FX.fr 0
        have f4 := FX.fr 1
        have f5 := FX.fr 2
        have HV := Lib.hid (show mayI (a, r) = false by
          rw [Bool.eq_false_iff]
          intro h
          rcases mayI_iff.1 h with ⟨h1, h2⟩ | ⟨h1, h2, h3⟩
          · rw [HAR.out h1] at h2; cases h2
          · exact HN.out (a.toNat - 2) (by omega) ⟨by omega, h3⟩)
        clear FE FX hit0 hno0 hb0 hpos0
        go_wp2
        generalize hWE : ((wr.setCell ⟨g + 1, 0, none⟩ (.int .i32 0)).setCell ⟨g + 1, 1, none⟩ (.bool false)).setCell ⟨g + 1, 2, none⟩ (.int .i64 0) = WE at *
        rw [tlI_no HV.out, HV.out]
        exact bodyPost_ret (v := .tuple #[.agg #[.int .i32 0, .bool false, .int .i64 0], .bool false]) (by simp [results, Try.results25, go_sem, e0, e1, e2]) rfl ⟨rfl, BE.out⟩
  · have ga : (a == 1) = false := by simpa using ha
    clear ha
    go_enter Try.func25, Try.ntmps25
    go_wp2
    rw [HW.out, Hg.out]
    have HAR : Hid (a = 1 → isZ r = false) := HNO
    go_loopw [4] (fun kv wr => ∃ (k : Nat), k ≤ 5 ∧ kv = .int .i64 (2 + (k : Int)) ∧ wr.heap[g + 1 + 1]? = some (.stringIter sgB (sgo k)) ∧ (∀ j : Nat, j < k → ¬ (a = 2 + (j : Int) ∧ r = 0)) ∧ Below (g + 1 + 1) W wr) (fun _ wr => sgB.size - wr.iterPos (g + 1 + 1))
    case atStart =>
      refine ⟨0, by omega, rfl, ?_, fun j hj => absurd hj (by omega), B1.out.alloc (by rw [S1.out]; exact Nat.le_refl _) _⟩
      rw [← S1.out]; exact heap_alloc_new _ _
    case round =>
      obtain ⟨k, hk, rfl, hit0, hno0, hb0⟩ := hrel
      have HIT := Lib.hid hit0
      have HN := Lib.hid hno0
      have HB := Lib.hid hb0
      have hpos0 : wr.iterPos (g + 1 + 1) = sgo k := by simp [World.iterPos, hit0]
      have HPOS := Lib.hid hpos0
      by_cases hlt : k < 5
      · obtain ⟨hd, hsz, hnx1, hle, hps⟩ := sg_step hlt
        have hnx := Lib.run_next_any_at (P := Try.prog) wr (g + 1 + 1) sgB (sgo k) 0 HIT.out hsz
        rw [hd] at hnx
        dsimp only at hnx
        rw [hnx1] at hnx
        have HBQ0 := Lib.below_iterAt HB.out (Nat.le_refl (g + 1 + 1)) sgB (sgo (k + 1))
        have HBQ := Lib.hid HBQ0
        have HITQ := Lib.hid (Lib.iterAt_heap wr (g + 1 + 1) sgB (sgo k) (sgo (k + 1)) HIT.out)
        have d0 : (wr.iterAt (g + 1 + 1) sgB (sgo (k + 1))).cell? ⟨g, 0, none⟩ = some (.int .i64 a) := (A0.out.below HBQ0 (by omega)).c 0
        have d1 : (wr.iterAt (g + 1 + 1) sgB (sgo (k + 1))).cell? ⟨g, 1, none⟩ = some (.int .i32 r) := (A0.out.below HBQ0 (by omega)).c 1
        have FX := A1.out.below HBQ0 (by omega)
        have hm : sgB.size - sgo (k + 1) < sgB.size - sgo k := by omega
        have HM := Lib.hid hm
        clear hit0 hno0 hb0 hpos0 hm hd hnx1 hps HBQ0
        generalize hW : wr.iterAt (g + 1 + 1) sgB (sgo (k + 1)) = W1 at *
        have e1 : W1.iterPos (g + 1 + 1) = sgo (k + 1) := by simp [World.iterPos, HITQ.out]
        have E1 := Lib.hid e1
        have HWQ := Lib.hid hW
        clear hW e1
        generalize hp : sgo (k + 1) = p1 at *
        have HP := Lib.hid hp
        clear hp
        by_cases hak : a = 2 + (k : Int)
        · by_cases hr0 : r = 0
          · subst hak hr0
            have HV := Lib.hid (show tlI (2 + (k : Int), 0) = (((sgn k : Nat) : Int), false, 0) ∧ mayI (2 + (k : Int), 0) = true by
              have hm : mayI (2 + (k : Int), 0) = true := mayI_iff.2 (.inr ⟨by omega, by omega, rfl⟩)
              rw [tlI_may hm, tkI_sign]; exact ⟨rfl, hm⟩)
            generalize sgn k = sk at *
            have FE := FX.set3 (.int .i32 (sk : Int)) (.bool false) (.int .i64 0)
            have e0 := FE.v 0 rfl
            have e1 := FE.v 1 rfl
            have e2 := FE.v 2 rfl
            have BE := Lib.hid (Below.set3 (B0.out.trans (HBQ.out.mono (by omega))) (show g ≤ g + 1 by omega) (.int .i32 (sk : Int)) (.bool false) (.int .i64 0))
            have f0 := FX.v 0 rfl
            have f1 := FX.v 1 rfl
            have f2 := FX.v 2 rfl
            have f3 := FX.fr 0
            have f4 := FX.fr 1
            have f5 := FX.fr 2
            clear FE FX
            go_wp2
            generalize hWE : ((W1.setCell ⟨g + 1, 0, none⟩ (.int .i32 (sk : Int))).setCell ⟨g + 1, 1, none⟩ (.bool false)).setCell ⟨g + 1, 2, none⟩ (.int .i64 0) = WE at *
            rw [HV.out.1, HV.out.2]
            exact bodyPost_ret (v := .tuple #[.agg #[.int .i32 (sk : Int), .bool false, .int .i64 0], .bool true]) (by simp [results, Try.results25, go_sem, e0, e1, e2]) rfl ⟨rfl, BE.out⟩
          · have g2 : (r == 0) = false := by simpa using hr0
            have HR := Lib.hid hr0
            subst hak
            clear hr0 FX
            go_wp2
            go_roundw
            case rel =>
              refine ⟨k + 1, by omega, by go_num, by rw [HP.out]; exact HITQ.out, fun j hj => ?_, HBQ.out⟩
              exact fun e => HR.out e.2
            case measure => rw [HPOS.out, E1.out]; exact HM.out
        · have g2 : (a == 2 + (k : Int)) = false := by simpa using hak
          have HR := Lib.hid hak
          clear hak FX
          go_wp2
          go_roundw
          case rel =>
            refine ⟨k + 1, by omega, by go_num, by rw [HP.out]; exact HITQ.out, fun j hj => ?_, HBQ.out⟩
            rcases Nat.lt_or_ge j k with hjk | hjk
            · exact HN.out j hjk
            · obtain rfl : j = k := by omega
              exact fun e => HR.out e.1
          case measure => rw [HPOS.out, E1.out]; exact HM.out
      · obtain rfl : k = 5 := by omega
        have hnx := Lib.run_next_end_at (P := Try.prog) wr (g + 1 + 1) sgB (sgo 5) 0 HIT.out sg_end
        have FX := A1.out.below hb0 (by omega)
        have FE := FX.set3 (.int .i32 0) (.bool false) (.int .i64 0)
        have e0 := FE.v 0 rfl
        have e1 := FE.v 1 rfl
        have e2 := FE.v 2 rfl
        have BE := Lib.hid (Below.set3 (B0.out.trans (HB.out.mono (by omega))) (show g ≤ g + 1 by omega) (.int .i32 0) (.bool false) (.int .i64 0))
        have f0 := FX.v 0 rfl
        have f1 := FX.v 1 rfl
        have f2 := FX.v 2 rfl
        have f3 := FX.fr 0
        have f4 := FX.fr 1
        have f5 := FX.fr 2
        have HV := Lib.hid (show mayI (a, r) = false by
          rw [Bool.eq_false_iff]
          intro h
          rcases mayI_iff.1 h with ⟨h1, h2⟩ | ⟨h1, h2, h3⟩
          · rw [HAR.out h1] at h2; cases h2
          · exact HN.out (a.toNat - 2) (by omega) ⟨by omega, h3⟩)
        clear FE FX hit0 hno0 hb0 hpos0
        go_wp2
        generalize hWE : ((wr.setCell ⟨g + 1, 0, none⟩ (.int .i32 0)).setCell ⟨g + 1, 1, none⟩ (.bool false)).setCell ⟨g + 1, 2, none⟩ (.int .i64 0) = WE at *
        rw [tlI_no HV.out, HV.out]
        exact bodyPost_ret (v := .tuple #[.agg #[.int .i32 0, .bool false, .int .i64 0], .bool false]) (by simp [results, Try.results25, go_sem, e0, e1, e2]) rfl ⟨rfl, BE.out⟩

theorem affTell_c (a r : Int) (w : World) : Calls Try.prog 25 #[.agg #[.int .i64 a, .int .i32 r]] w fun e w' =>
    e = .returned (.tuple #[.agg #[.int .i32 (tlI (a, r)).1, .bool (tlI (a, r)).2.1, .int .i64 (tlI (a, r)).2.2], .bool (mayI (a, r))]) ∧ Below w.heap.size w w' := by
  by_cases h : a = 1 ∧ isZ r = true
  · obtain ⟨rfl, hz⟩ := h
    have hm : mayI (1, r) = true := mayI_iff.2 (.inl ⟨rfl, hz⟩)
    rw [tlI_may hm, hm, tkI_lit]
    exact tellLit_c r w hz
  · exact tellSign_c a r w fun ha => by
      rcases hz : isZ r with _ | _
      · rfl
      · exact absurd ⟨ha, hz⟩ h
end Go.Proofs.Ytbmgdheljnbmpaa
