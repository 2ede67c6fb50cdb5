/-
  NumberBack, walked.
-/
import Derived.Test.YtogipbgfnjbakaaDoorNW
set_option maxRecDepth 100000
namespace Go.Proofs.YtogipbgfnjbakaaDoor
open Go.RowKit
/-- As wpList_load_row_w: each premise is one cheap look-up. -/
theorem wpList_load_row_g {P : Program} {ops : Array Oper} {rest : List Oper} {o : Oper} {a : Act} {w : World} {Q : Exit → Act → World → Prop} (ty : TypeId) (x : Operand) (ho : o.op = .load ty x)
    (g : Nat) (hx : a.eval x = .pointer (some ⟨g, 0, none⟩)) (t : TypeId) (cs : Array Value) (fr : Nat × Nat) (d : TypeDesc) (hg : w.heap[g]? = some (.cells cs t fr))
    (hu : P.underlying ty = some d) (hd : (match d with | .struct _ | .array _ _ => true | _ => false) = true) (hi : (P.info? ty).map (·.size) = some cs.size)
    {j : Nat} {want : Bool} (hgd : o.guard = some (j, want)) {oj : Oper} {rj : List Oper} (hj : ops.toList.drop j = oj :: rj) {k : Nat} (hk : oj.dst = some k) {rv : List Value} (hv : a.tmps.toList.drop k = .bool want :: rv)
    (h : wpList P ops Q rest (a.put o.dst (.agg cs)) w) : wpList P ops Q (o :: rest) a w := by
  have e1 : ops[j]? = some oj := drop_at hj
  have e2 : a.tmps[k]? = some (.bool want) := by rw [← Array.getElem?_toList, ← Nat.add_zero k, ← List.getElem?_drop, hv]; rfl
  refine wpList_load_row_w ?_ ty x ho g hx t cs fr d hg hu hd hi h
  unfold Region.wanted
  rw [hgd]
  simp [yielded, e1, hk, e2]
set_option maxHeartbeats 8000000 in
theorem walk_numberBack (s : ByteArray) (k : Int) (w : World) (hs : s.size ≤ 1048576) (hk : 0 ≤ k ∧ k ≤ 255) (hM : Mw w) :
    Calls Tryd.prog 3 #[.string s, .int .u8 k] w fun e w' => e = .returned (.bool true) ∧ Below w.heap.size w w' := by
  obtain ⟨kn, rfl⟩ : ∃ kn : Nat, k = (kn : Int) := ⟨k.toNat, by omega⟩
  have hkn : kn ≤ 255 := by omega
  have P1 := Lib.hid (fun W (h : Mw W) => parse_c s W h (by omega))
  have HN := Lib.hid (show numZ (bts s) = ((numZ (bts s)).1, (numZ (bts s)).2) from rfl)
  generalize (numZ (bts s)).1 = p at *
  generalize (numZ (bts s)).2 = e at *
  have HA := Lib.hid (fun W (h : Mw W) => answers15_c W h)
  have HM := Lib.hid hM
  clear hM hk
  go_enter Tryd.func3, Tryd.ntmps3
  go_upto_region 2 with (first
    | (go_at_call 7; refine (P1.out _ HM.out).mono ?_; rintro e w1 ⟨rfl, hb⟩; have HB := Lib.hid hb; clear hb)
    | (refine wpList_store_row rfl 24 _ _ rfl w1.heap.size (patN p) rfl rfl 24 patZ (BX.new w1 patZ _) (pat_size ..) rfl (pat_cells _) ?_)
    | fail)
  have hbx : BX ((w1.alloc (.cells patZ 24)).setRow w1.heap.size (patN p)) w1.heap.size (patN p) 24 := st_new
  have HB : Hid (Below w.heap.size w ((w1.alloc (.cells patZ 24)).setRow w1.heap.size (patN p))) := Lib.hid (st_below HB.out HB.out.size)
  change Code.wp _ _ _ _ ((w1.alloc (.cells patZ 24)).setRow w1.heap.size (patN p))
  generalize (w1.alloc (.cells patZ 24)).setRow w1.heap.size (patN p) = W1 at *
  generalize w1.heap.size = a at *
  clear P1
  by_cases h4 : 400 < s.size
  · have g4 : (400 : Int) < (s.size : Int) := by omega
    go_wp2_with (go_at_call 8; refine (HA.out _ (HM.out.below HB.out)).mono ?_; rintro e w2 ⟨rfl, hb⟩)
    go_ret
    exact ⟨rfl, HB.out.trans (hb.mono HB.out.size)⟩
  · have g4 : ¬ (400 : Int) < (s.size : Int) := by omega
    by_cases he : e = 0
    · subst he
      have hok := okN_of HN.out
      have hsh := pr_shorter HN.out
      rw [bts_length] at hsh
      have T1 : Hid (∀ W, Mw W → Calls Tryd.prog 9 #[.agg (patN p), .int .i64 0] W fun e w' => e = .returned (.string (stz (prN p 0))) ∧ Below W.heap.size W w') := Lib.hid (fun W h => print_c _ _ _ _ _ _ _ _ p 0 W h hok (by decide))
      have T2 : Hid (∀ W, Mw W → Calls Tryd.prog 9 #[.agg (patN p), .int .i64 ((kn % 100 : Nat) : Int)] W fun e w' => e = .returned (.string (stz (prN p (kn % 100)))) ∧ Below W.heap.size W w') := Lib.hid (fun W h => by
        have := print_c (.slice none 0 0) (.slice none 0 0) (.bool false) (.slice none 0 0) (.slice none 0 0) (.int .i64 0) (.int .i32 0) (.int .i64 0) p ((kn % 100 : Nat) : Int) W h hok (by omega)
        rwa [Int.toNat_natCast] at this)
      have hl1 : (stz (prN p 0)).size ≤ s.size := by rw [stz_size]; exact hsh
      have hmo : p.sci = false → (stz (prN p (kn % 100))).size = (stz (prN p 0)).size + kn % 100 := fun e => by rw [stz_size, stz_size, pr_more_len hok e]
      have hl2 : (stz (prN p (kn % 100))).size ≤ 600 := by
        cases e : p.sci
        · rw [hmo e]; omega
        · rw [pr_sci e]; omega
      have HMO := Lib.hid hmo
      have P2 : Hid (∀ W, Mw W → Calls Tryd.prog 7 #[.string (stz (prN p 0))] W fun e w' => e = .returned (.tuple #[.agg (patN p), .int .i64 0]) ∧ Below W.heap.size W w') := Lib.hid (fun W h => by
        have := parse_c (stz (prN p 0)) W h (by omega)
        rw [pr_bts hok, num_back hok] at this
        exact this)
      have P3 : Hid (∀ W, Mw W → Calls Tryd.prog 7 #[.string (stz (prN p (kn % 100)))] W fun e w' => e = .returned (.tuple #[.agg (patN p), .int .i64 0]) ∧ Below W.heap.size W w') := Lib.hid (fun W h => by
        have := parse_c (stz (prN p (kn % 100))) W h (by omega)
        rw [pr_bts hok, num_back hok] at this
        exact this)
      have HSP := Lib.hid (fun W => sameP_c p W)
      have hr : ((kn : Nat) : Int).tmod 100 = ((kn % 100 : Nat) : Int) := rfl
      have h100 : kn % 100 ≤ 99 := by omega
      have h14 : (patN p)[14]? = some (.bool p.sci) := rfl
      have hsz : (Tryd.prog.info? 24).map (·.size) = some (patN p).size := pat_size ..
      have hcell := pat_cells p
      have hzs : patZ.size = (patN p).size := rfl
      clear hok hsh hmo HN
      generalize stz (prN p 0) = T0 at *
      generalize stz (prN p (kn % 100)) = Tr at *
      generalize kn % 100 = r at *
      generalize p.sci = sc at *
      generalize patN p = PV at *
      go_upto_region 6 with (first
        | (refine wpList_load_row rfl 24 _ rfl a rfl 24 PV (0, 0) _ hbx Tryd.underlying24 rfl hsz ?_)
        | (go_at_call 9; refine (T1.out _ (HM.out.below HB.out)).mono ?_; rintro e w2 ⟨rfl, hb⟩; have HB := Lib.hid (HB.out.trans (hb.mono HB.out.size)); have hbx := hbx.below hb hbx.lt; clear hb)
        | (go_at_call 7; refine (P2.out _ (HM.out.below HB.out)).mono ?_; rintro e w3 ⟨rfl, hb⟩; have HB := Lib.hid (HB.out.trans (hb.mono HB.out.size)); have hbx := hbx.below hb hbx.lt; clear hb)
        | (refine wpList_store_row rfl 24 _ _ rfl w3.heap.size PV rfl rfl 24 patZ (BX.new w3 patZ _) hsz hzs hcell ?_)
        | fail)
      have hby : BX ((w3.alloc (.cells patZ 24)).setRow w3.heap.size PV) w3.heap.size PV 24 := st_new
      have hbx : BX ((w3.alloc (.cells patZ 24)).setRow w3.heap.size PV) a PV 24 := st_old hbx
      have HB : Hid (Below w.heap.size w ((w3.alloc (.cells patZ 24)).setRow w3.heap.size PV)) := Lib.hid (st_below HB.out HB.out.size)
      change Code.wp _ _ _ _ ((w3.alloc (.cells patZ 24)).setRow w3.heap.size PV)
      generalize (w3.alloc (.cells patZ 24)).setRow w3.heap.size PV = W3 at *
      generalize w3.heap.size = b at *
      clear P2
      go_upto_region 7 with (first
        | (refine wpList_load_row rfl 24 _ rfl a rfl 24 PV (0, 0) _ hbx Tryd.underlying24 rfl hsz ?_)
        | (go_at_call 9; refine (T2.out _ (HM.out.below HB.out)).mono ?_; rintro e w4 ⟨rfl, hb⟩; have HB := Lib.hid (HB.out.trans (hb.mono HB.out.size)); have hbx := hbx.below hb hbx.lt; have hby := hby.below hb hby.lt; clear hb)
        | (go_at_call 7; refine (P3.out _ (HM.out.below HB.out)).mono ?_; rintro e w5 ⟨rfl, hb⟩; have HB := Lib.hid (HB.out.trans (hb.mono HB.out.size)); have hbx := hbx.below hb hbx.lt; have hby := hby.below hb hby.lt; clear hb)
        | (refine wpList_store_row rfl 24 _ _ rfl w5.heap.size PV rfl rfl 24 patZ (BX.new w5 patZ _) hsz hzs hcell ?_)
        | fail)
      have hbz : BX ((w5.alloc (.cells patZ 24)).setRow w5.heap.size PV) w5.heap.size PV 24 := st_new
      have hbx : BX ((w5.alloc (.cells patZ 24)).setRow w5.heap.size PV) a PV 24 := st_old hbx
      have hby : BX ((w5.alloc (.cells patZ 24)).setRow w5.heap.size PV) b PV 24 := st_old hby
      have HB : Hid (Below w.heap.size w ((w5.alloc (.cells patZ 24)).setRow w5.heap.size PV)) := Lib.hid (st_below HB.out HB.out.size)
      change Code.wp _ _ _ _ ((w5.alloc (.cells patZ 24)).setRow w5.heap.size PV)
      generalize (w5.alloc (.cells patZ 24)).setRow w5.heap.size PV = W5 at *
      generalize w5.heap.size = c at *
      clear P3 T1
      have gl : (T0.size : Int) ≤ (s.size : Int) := by omega
      rcases sc with _ | _
      · have hm := HMO.out rfl
        have gm : (Tr.size : Int) = (T0.size : Int) + (r : Int) := by omega
        go_wp2_with (first
          | (go_at_call 8; refine (HA.out _ (HM.out.below HB.out)).mono ?_; rintro e w6 ⟨rfl, hb⟩; have HB := Lib.hid (HB.out.trans (hb.mono HB.out.size)); have hbx := hbx.below hb hbx.lt; have hby := hby.below hb hby.lt; have hbz := hbz.below hb hbz.lt; have c14 := (hbx.c 14).trans h14; clear hb)
          | (refine wpList_load_row_g 24 (Operand.tmp 5) rfl a rfl 24 PV (0, 0) _ hbx Tryd.underlying24 rfl hsz rfl rfl rfl rfl ?_)
          | (refine wpList_load_row_g 24 (Operand.tmp 8) rfl b rfl 24 PV (0, 0) _ hby Tryd.underlying24 rfl hsz rfl rfl rfl rfl ?_)
          | (refine wpList_load_row_g 24 (Operand.tmp 10) rfl c rfl 24 PV (0, 0) _ hbz Tryd.underlying24 rfl hsz rfl rfl rfl rfl ?_)
          | (go_at_call 10; refine (HSP.out _).mono ?_; rintro e w7 ⟨rfl, hb⟩; have HB := Lib.hid (HB.out.trans (hb.mono HB.out.size)); have hbx := hbx.below hb hbx.lt; have hby := hby.below hb hby.lt; have hbz := hbz.below hb hbz.lt; have c14 := (hbx.c 14).trans h14; clear hb)
          | (go_at_call 9; refine (T2.out _ (HM.out.below HB.out)).mono ?_; rintro e w8 ⟨rfl, hb⟩; have HB := Lib.hid (HB.out.trans (hb.mono HB.out.size)); clear hb)
          | fail)
        go_ret
        exact ⟨rfl, HB.out⟩
      · go_wp2_with (first
          | go_skip
          | (go_at_call 8; refine (HA.out _ (HM.out.below HB.out)).mono ?_; rintro e w6 ⟨rfl, hb⟩; have HB := Lib.hid (HB.out.trans (hb.mono HB.out.size)); have hbx := hbx.below hb hbx.lt; have hby := hby.below hb hby.lt; have hbz := hbz.below hb hbz.lt; have c14 := (hbx.c 14).trans h14; clear hb)
          | (refine wpList_load_row_g 24 (Operand.tmp 5) rfl a rfl 24 PV (0, 0) _ hbx Tryd.underlying24 rfl hsz rfl rfl rfl rfl ?_)
          | (refine wpList_load_row_g 24 (Operand.tmp 8) rfl b rfl 24 PV (0, 0) _ hby Tryd.underlying24 rfl hsz rfl rfl rfl rfl ?_)
          | (refine wpList_load_row_g 24 (Operand.tmp 10) rfl c rfl 24 PV (0, 0) _ hbz Tryd.underlying24 rfl hsz rfl rfl rfl rfl ?_)
          | (go_at_call 10; refine (HSP.out _).mono ?_; rintro e w7 ⟨rfl, hb⟩; have HB := Lib.hid (HB.out.trans (hb.mono HB.out.size)); have hbx := hbx.below hb hbx.lt; have hby := hby.below hb hby.lt; have hbz := hbz.below hb hbz.lt; have c14 := (hbx.c 14).trans h14; clear hb)
          | fail)
        go_ret
        exact ⟨rfl, HB.out⟩
    · obtain ⟨j, rfl⟩ : ∃ j, e = j + 1 := ⟨e - 1, by omega⟩
      have hne : (((j + 1 : Nat) : Int) != 0) = true := by simp only [bne_iff_ne, ne_eq]; omega
      go_wp2_with (go_at_call 8; refine (HA.out _ (HM.out.below HB.out)).mono ?_; rintro e w2 ⟨rfl, hb⟩)
      go_ret
      exact ⟨rfl, HB.out.trans (hb.mono HB.out.size)⟩
end Go.Proofs.YtogipbgfnjbakaaDoor
