import Derived.Test.YtmfcjjjkndfojaaRefF
import Derived.Test.YtmfcjjjkndfojaaOwn
import Derived.Test.YtmfcjjjkndfojaaMulMath
import Derived.IntWalk
namespace Go.Proofs.Ytmfcjjjkndfojaa
open Go.RowKit
/-- Whole numbers as values. -/
def i64s (xs : List Nat) : List Value := xs.map fun (x : Nat) => Value.int .i64 (x : Int)
theorem i64s_length (xs : List Nat) : (i64s xs).length = xs.length := by simp [i64s]
theorem i64s_get (xs : List Nat) (k : Nat) : (i64s xs)[k]? = (xs[k]?).map fun (x : Nat) => Value.int .i64 (x : Int) := by simp [i64s]
theorem i64s_set (zs : List Nat) (k x : Nat) : i64s (zs.set k x) = (i64s zs).set k (.int .i64 (x : Int)) := by simp [i64s, List.map_set]
theorem i64_info : (Try.prog.info? 3).map (fun i => (i.zero, i.size, i.bytes)) = some (some (.int .i64 0), 1, 8) := by kernel_rfl
theorem made_i64 (k : Nat) : (madeCells #[Value.int .i64 0] k).toList = i64s (List.replicate k 0) := by
  simp only [madeCells, i64s, List.map_replicate, Array.toList_map, Array.toList_range]
  rw [List.eq_replicate_iff]
  refine ⟨by simp, fun b hb => ?_⟩
  obtain ⟨x, _, rfl⟩ := List.mem_map.1 hb
  have : x % (#[Value.int .i64 0] : Array Value).size = 0 := Nat.mod_one x
  rw [this]; rfl
theorem own_at64 {w : World} {base g N : Nat} {zs : List Nat} (h : w.ownsRow base 3 1 (.slice (some ⟨g, 0, none⟩) N N) N (i64s zs)) {j : Nat} (hj : j < N) : w.cell? ⟨g, j, none⟩ = some (.int .i64 ((zs.getD j 0 : Nat) : Int)) := by
  have hl : zs.length = N := by have := h.1; simpa [i64s_length] using this
  rw [h.cellAt j (by omega), i64s_get, List.getElem?_eq_getElem (by omega)]
  simp [List.getD, List.getElem?_eq_getElem (show j < zs.length by omega)]
theorem still_of {P : Program} {f : FuncId} {args : Array Value} {w : World} {v : Value} (h : Calls P f args w fun e w' => e = .returned v ∧ w = w') : Calls P f args w fun e w' => e = .returned v ∧ w' = w :=
  h.mono fun _ _ ⟨h1, h2⟩ => ⟨h1, h2.symm⟩
theorem dig_prod {X Y : Nat} (hx : X < 10) (hy : Y < 10) : X * Y ≤ 81 := Nat.mul_le_mul (show X ≤ 9 by omega) (show Y ≤ 9 by omega)
theorem times_step (o k V0 y x z v v' T : Nat) (hs : v' + 10 ^ (o + k) * z = v + 10 ^ (o + k) * (z + y * x)) (hv : v = V0 + 10 ^ o * (y * T)) : v' = V0 + 10 ^ o * (y * (T + 10 ^ k * x)) := by
  have := row_step 10 o k V0 y x z 0 (z + y * x) 0 v v' T hs (by simpa using hv) (by rw [Nat.mul_comm]; omega)
  simpa using this
set_option maxHeartbeats 2000000 in
set_option maxRecDepth 100000 in
theorem times_c (s t : ByteArray) (ds es : List Nat) (w : World) (h : IsD s ds) (h' : IsD t es) (hs : s.size ≤ 100000000) (ht : t.size ≤ 100000000) :
    Calls Try.prog 18 #[.string s, .string t] w fun e w' => ∃ s', e = .returned (.string s') ∧ IsD s' (decs (dval ds * dval es)) ∧ Below w.heap.size w w' := by
  obtain ⟨i0, hi, hz0, hz1, hz2⟩ := info_parts i64_info
  have hl := Lib.hid h.size
  have hl' := Lib.hid h'.size
  have H := Lib.hid h
  have H' := Lib.hid h'
  clear h h'
  obtain ⟨N, hN⟩ : ∃ N : Nat, N = s.size + t.size + 1 := ⟨_, rfl⟩
  have HN := Lib.hid hN
  have hN1 : N ≤ 200000001 := by omega
  have hN2 : s.size + t.size < N := by omega
  have HNI := Lib.hid (show (s.size : Int) + (t.size : Int) + 1 = (N : Int) by omega)
  clear hN
  go_enter Try.func18, Try.ntmps18
  go_wp2_with (at_make; refine wpList_make_full _ rfl _ _ 54 rfl w.heap.size 3 i0 (.int .i64 0) 1 Try.underlying54 hi hz0 hz1 _ _ _ _ N rfl rfl ?b0 ?b1 ?b2 ?b3 (Nat.le_refl _) ?_)
  case b0 => have := HNI.out; omega
  case b1 => have := HNI.out; omega
  case b2 => rw [hz2]; omega
  case b3 => unfold maxLen; omega
  rw [HNI.out]
  intro w1 hown hgrow
  rw [made_i64] at hown
  have hb1 : Below w.heap.size w w1 := (Below.refl _ _).grown hgrow (Nat.le_refl _) (fun k hk => by cases hk)
  have W0 := Lib.hid hown
  have hb1' := Lib.hid hb1
  clear hown hb1 hgrow
  go_wp2_with fail
  generalize hg : w.heap.size = g
  have Hg := Lib.hid hg
  clear hg
  go_loopw [6, 7] (fun i _ wr => ∃ (p : Nat) (os : List Nat), p ≤ s.size ∧ i = .int .i64 (p : Int) ∧ wr.ownsRow g 3 1 (.slice (some ⟨g, 0, none⟩) N N) N (i64s os) ∧ Below g w wr ∧ os.length = N ∧
      (∀ j, os.getD j 0 ≤ 81 * p) ∧ val 10 os = val 10 (ds.reverse.take p) * val 10 es.reverse) (fun i _ _ => s.size - (intOf i).toNat)
  case atStart => exact ⟨0, List.replicate N 0, Nat.zero_le _, rfl, by rw [← Hg.out]; exact W0.out, by rw [← Hg.out]; exact hb1'.out, by simp, fun j => by rw [getD_replicate]; omega, by simp [val_replicate, val]⟩
  case round =>
    obtain ⟨p, os, hp, rfl, hown0, hbw0, hul0, hub0, hval0⟩ := hrel
    have HO := Lib.hid hown0
    have HBW := Lib.hid hbw0
    have HUL := Lib.hid hul0
    have HUB := Lib.hid hub0
    have HV := Lib.hid hval0
    clear hown0 hbw0 hul0 hub0 hval0
    by_cases hlt : p < s.size
    · have hX := rev_getD_lt ds H.out.2 p
      have C1 := fun W => digit_c s ds W (p : Int) (by omega) (by omega) H.out (by omega)
      simp only [Int.toNat_natCast] at C1
      have hv1 := Lib.hid (val_take_succ 10 ds.reverse p)
      generalize ds.reverse.getD p 0 = X at C1 hX hv1
      have HC1 := Lib.hid C1
      clear C1
      go_wp2
      go_loopw [7] (fun j wi => ∃ (q : Nat) (us : List Nat), q ≤ t.size ∧ j = .int .i64 (q : Int) ∧ wi.ownsRow g 3 1 (.slice (some ⟨g, 0, none⟩) N N) N (i64s us) ∧ Below g w wi ∧ us.length = N ∧
          (∀ j, us.getD j 0 ≤ 81 * p + 81) ∧ (∀ j, p + q ≤ j → us.getD j 0 ≤ 81 * p) ∧ val 10 us = val 10 os + 10 ^ p * (X * val 10 (es.reverse.take q))) (fun j _ => t.size - (intOf j).toNat)
      case atStart => exact ⟨0, os, Nat.zero_le _, rfl, HO.out, HBW.out, HUL.out, fun j => by have := HUB.out j; omega, fun j _ => HUB.out j, by simp [val]⟩
      case round =>
        obtain ⟨q, us, hq, rfl, hown1, hbw1, hul1, hub1, hub2, hval1⟩ := hrel
        have HO1 := Lib.hid hown1
        have HBW1 := Lib.hid hbw1
        have HUL1 := Lib.hid hul1
        have HUB1 := Lib.hid hub1
        have HUB2 := Lib.hid hub2
        have HV1 := Lib.hid hval1
        clear hown1 hbw1 hul1 hub1 hub2 hval1
        by_cases hlt2 : q < t.size
        · have hpq : p + q < N := by omega
          have hcell := own_at64 HO1.out (j := p + q) hpq
          have hfr := HO1.out.frozenAt (p + q)
          have hZ := HUB2.out (p + q) (Nat.le_refl _)
          have hst := Lib.hid fun l => val_set 10 us (p + q) l (by rw [HUL1.out]; exact hpq)
          generalize us.getD (p + q) 0 = Z at hcell hZ hst
          have hY := rev_getD_lt es H'.out.2 q
          have C2 := fun W => digit_c t es W (q : Int) (by omega) (by omega) H'.out (by omega)
          simp only [Int.toNat_natCast] at C2
          have hv2 := Lib.hid (val_take_succ 10 es.reverse q)
          generalize es.reverse.getD q 0 = Y at C2 hY hv2
          have HC2 := Lib.hid C2
          clear C2
          have hxy := dig_prod hX hY
          have hxyI : (X : Int) * (Y : Int) ≤ 81 := by rw [← Int.natCast_mul]; omega
          have hxyI0 : 0 ≤ (X : Int) * (Y : Int) := by rw [← Int.natCast_mul]; omega
          have q1 : IntKind.i64.wrap ((p : Int) + (q : Int)) = (p : Int) + (q : Int) := IntWalk.i64_in _ (by omega)
          have q2 : 0 ≤ (p : Int) + (q : Int) := by omega
          have q3 : ((p : Int) + (q : Int)).toNat = p + q := by omega
          have q4 : (p : Int) + (q : Int) < (N : Int) := by omega
          have q5 : IntKind.i64.wrap ((X : Int) * (Y : Int)) = (X : Int) * (Y : Int) := IntWalk.i64_in _ (by omega)
          have q6 : IntKind.i64.wrap ((Z : Int) + (X : Int) * (Y : Int)) = (Z : Int) + (X : Int) * (Y : Int) := IntWalk.i64_in _ (by omega)
          go_wp2
          go_still_tail 19, (by kernel_rfl)
          still_call (still_of (HC1.out _))
          repeat still_step
          still_call (still_of (HC2.out _))
          repeat still_step
          refine wpStill_nil ?_
          clear q1 q3 q5 q6
          go_wp2
          go_roundw
          case rel =>
            have hcast : (X : Int) * (Y : Int) = ((X * Y : Nat) : Int) := by simp
            refine ⟨q + 1, us.set (p + q) (Z + X * Y), by omega, by go_num, ?_, HBW1.out.drew.setCell (Nat.le_refl _) _, by simpa using HUL1.out, ?_, ?_, ?_⟩
            · rw [i64s_set, hcast]
              exact (World.ownsRow.stored (w := wr.drew) HO1.out (p + q) _).1
            · intro j
              rw [getD_set]
              split
              · omega
              · exact HUB1.out j
            · intro j hj
              rw [getD_set_ne _ _ _ _ (by omega)]
              exact HUB2.out j (by omega)
            · rw [hv2.out]
              exact times_step p q _ X Y Z _ _ _ (hst.out _) HV1.out
          case measure => simp [intOf]; omega
        · obtain rfl : q = t.size := by omega
          go_wp2
          go_roundw
          case rel =>
            refine ⟨p + 1, us, by omega, by go_num, HO1.out, HBW1.out, HUL1.out, fun j => by have := HUB1.out j; omega, ?_⟩
            rw [HV1.out, HV.out, hv1.out, List.take_of_length_le (l := es.reverse) (by rw [List.length_reverse, ← hl'.out]; exact Nat.le_refl _), Nat.add_mul, Nat.mul_assoc]
          case measure => simp [intOf]; omega
    · obtain rfl : p = s.size := by omega
      obtain ⟨wo, rfl⟩ : ∃ wo : World, wo = wr := ⟨_, rfl⟩
      generalize hg3 : wo.heap.size = g3
      have Hg3 := Lib.hid hg3
      have hgg : g ≤ g3 := by have := HBW.out.size; have := Hg.out; omega
      have hgl : g < g3 := by
        obtain ⟨g', cap', e1, _, h2, _⟩ := own_pos HO.out (by omega)
        have e2 : g = g' := by simpa using (show g = g' ∧ N = cap' by simpa using e1).1
        omega
      clear hg3
      go_wp2
      go_loopw [8, 9, 10, 11] (fun v cy i _ wr => ∃ (k cr : Nat) (tx : List Nat), k ≤ N ∧ i = .int .i64 (k : Int) ∧ cy = .int .i64 (cr : Int) ∧ cr ≤ 10000000000 ∧
          wr.ownsRow g3 5 1 v k (u8s (asc tx)) ∧ tx.length = k ∧ (∀ d ∈ tx, d < 10) ∧ val 10 tx + 10 ^ k * cr = val 10 (os.take k) ∧ Below g3 wo wr) (fun _ _ i _ _ => N - (intOf i).toNat)
      case atStart => exact ⟨0, 0, [], Nat.zero_le _, rfl, rfl, by omega, World.ownsRow_nil _ _ _ _, rfl, by simp, rfl, Below.refl _ _⟩
      case round =>
        obtain ⟨k, cr, tx, hk, rfl, rfl, hcr, hown1, hlen1, hd1, hv1, hb1⟩ := hrel
        have HO1 := Lib.hid hown1
        have HLEN := Lib.hid hlen1
        have HD := Lib.hid hd1
        have HV1 := Lib.hid hv1
        have HB := Lib.hid hb1
        have hsz : g3 ≤ wr.heap.size := by have := hb1.size; have := Hg3.out; omega
        have HOW := Lib.hid (own_kept_lt HO.out hb1 (fun x hx => by
          have e : g = x := by simpa [Value.ownBlock] using hx
          omega))
        clear hown1 hlen1 hd1 hv1 hb1
        by_cases hlt2 : k < N
        · have hcell := own_at64 HOW.out hlt2
          have hZ := HUB.out k
          have hv2 := Lib.hid (val_take_succ 10 os k)
          generalize os.getD k 0 = Z at hcell hZ hv2
          go_wp2_with (at_builtin; go_must (refine wpList_app_u8 rfl (.tmp 62) (.tmp 67) _ rfl Try.underlying46 g3 u8 k _ rfl HO1.out _ rfl (48 + (Z + cr) % 10) (by omega) (by omega) HB.out hsz ?_))
          intro v' w' ho1 hb1
          go_wp2
          go_roundw
          case rel =>
            refine ⟨k + 1, (Z + cr) / 10, tx ++ [(Z + cr) % 10], by omega, by go_num, by congr 1, by omega, ?_, by simp [HLEN.out], ?_, ?_, hb1.out⟩
            · rw [asc_append]; exact ho1.out
            · intro d hd
              rcases List.mem_append.1 hd with hd | hd
              · exact HD.out d hd
              · rw [List.mem_singleton.1 hd]; omega
            · rw [val_snoc, HLEN.out, hv2.out, Nat.pow_succ]
              exact carry_step (10 ^ k) _ Z cr _ _ _ HV1.out (by omega)
          case measure => simp [intOf]; omega
        · obtain rfl : k = N := by omega
          go_wp2_with fail
          obtain ⟨A, c, hA⟩ := own_form HO1.out
          subst hA
          refine (turned_c A k c (asc tx) wr (Bytes.of_own HO1.out (by omega) (asc_lt tx HD.out))).mono ?_
          rintro e w1 ⟨s1, rfl, hs1, hb1⟩
          have HS1 := Lib.hid (isD_of_asc hs1 HD.out)
          have HB1 := Lib.hid hb1
          have hs1z : s1.size ≤ 1000000000 := by rw [HS1.out.size, List.length_reverse, HLEN.out]; omega
          clear hs1 hb1
          go_wp2_with fail
          refine (strip_c s1 tx.reverse w1 HS1.out hs1z).mono ?_
          rintro e w2 ⟨s2, rfl, hs2, rfl⟩
          have HS2 := Lib.hid hs2
          clear hs2
          go_wp2
          go_ret
          refine ⟨s2, rfl, ?_, by rw [Hg.out]; exact (HBW.out.trans (HB.out.mono hgg)).trans (HB1.out.mono (by omega))⟩
          have e1 := HV1.out
          rw [List.take_of_length_le (by rw [HUL.out]; exact Nat.le_refl _), HV.out, List.take_of_length_le (by rw [List.length_reverse, ← hl.out]; exact Nat.le_refl _)] at e1
          have e3 : dval tx.reverse = dval ds * dval es := by
            rw [dval, List.reverse_reverse]
            refine no_carry _ _ _ _ e1 ?_
            have l1 := dval_lt ds H.out.2
            have l2 := dval_lt es H'.out.2
            refine Nat.lt_of_lt_of_le (mul_lt_pow l1 l2) (Nat.pow_le_pow_right (by omega) ?_)
            rw [← hl.out, ← hl'.out]; omega
          rw [← e3]; exact HS2.out
end Go.Proofs.Ytmfcjjjkndfojaa
