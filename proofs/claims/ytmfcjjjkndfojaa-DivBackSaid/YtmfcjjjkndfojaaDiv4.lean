import Derived.Test.YtmfcjjjkndfojaaDiv3
import Derived.Test.YtmfcjjjkndfojaaOwn
namespace Go.Proofs.Ytmfcjjjkndfojaa
open Go.RowKit
theorem own_one (w : World) (X : Nat) (E : Int) (hE : E = (X : Int)) : (w.alloc (.cells #[.int .u32 E] 32)).ownsRow w.heap.size 32 1 (.slice (some ⟨w.heap.size, 0, none⟩) 1 1) 1 (u32s [X]) := by
  subst hE
  exact own_of_blk (World.alloc_heap_new w _) (Nat.le_refl _) rfl (by unfold maxLen; omega)
theorem limbs_of_reads {w : World} {g n : Nat} {A : Option Addr} {xs : List Nat} (h : Reads w g 1 A n (u32s xs)) (hg : g ≤ w.heap.size) (hn : n ≤ 36000000000000) (hx : ∀ x ∈ xs, x < 1000000000) : Limbs w A n xs :=
  ⟨h.more hg, hn, fun x h' => by have := hx x h'; omega⟩
theorem own_lt {w : World} {base e size g n c : Nat} {xs : List Value} (h : w.ownsRow base e size (.slice (some ⟨g, 0, none⟩) n c) n xs) : g < w.heap.size := by
  rcases h.2 with ⟨h', _⟩ | ⟨g', cap', cur, h', _, hgb, _⟩
  · simp at h'
  · simp only [Value.slice.injEq, Option.some.injEq, Addr.mk.injEq, and_true, true_and] at h'
    obtain ⟨rfl, _⟩ := h'
    exact (Array.getElem?_eq_some_iff.1 hgb).1
theorem own_setCell_other {w : World} {base n g j : Nat} {e : TypeId} {v u : Value} {xs : List Value} (h : w.ownsRow base e 1 v n xs) (hg : g < base) : (w.setCell ⟨g, j, none⟩ u).ownsRow base e 1 v n xs := by
  refine ⟨h.1, ?_⟩
  rcases h.2 with h' | ⟨g', cap', cur, h1, h2, h3, h4⟩
  · exact .inl h'
  · refine .inr ⟨g', cap', cur, h1, h2, ?_, h4⟩
    rw [Below.heap_setCell _ _ _ g' (Nat.ne_of_gt (Nat.lt_of_lt_of_le hg h2))]
    exact h3
theorem OwnS.setCell_other {w : World} {base m c g j : Nat} {A : Option Addr} {u : Value} {ys : List Nat} (h : OwnS w base A m c ys) (hg : g < base) : OwnS (w.setCell ⟨g, j, none⟩ u) base A m c ys := ⟨own_setCell_other h.1 hg, h.2⟩
/-- Where a long division stands, k limbs of the first number being left. -/
structure LongAt (X Y N k : Nat) (rs zs : List Nat) : Prop where
  len : zs.length = N
  lt : ∀ z ∈ zs, z < 1000000000
  zero : ∀ j, j < k → zs.getD j 0 = 0
  rest : val 1000000000 rs < Y
  restLt : ∀ r ∈ rs, r < 1000000000
  eq : X = Y * val 1000000000 zs + 1000000000 ^ k * val 1000000000 rs + val 1000000000 ((digs 1000000000 X).take k)
theorem LongAt.next {X Y N k : Nat} {rs zs : List Nat} (h : LongAt X Y N (k + 1) rs zs) (hk : k < N) :
    val 1000000000 ((digs 1000000000 X).getD k 0 :: rs) < 1000000000 * Y ∧ (∀ x ∈ (digs 1000000000 X).getD k 0 :: rs, x < 1000000000) ∧
      val 1000000000 ((digs 1000000000 X).getD k 0 :: rs) / Y < 1000000000 ∧
      LongAt X Y N k (digs 1000000000 (val 1000000000 ((digs 1000000000 X).getD k 0 :: rs) % Y)) (zs.set k (val 1000000000 ((digs 1000000000 X).getD k 0 :: rs) / Y)) := by
  have hx := getD_lt 1000000000 (by omega) (digs 1000000000 X) (digs_lt 1000000000 (by omega) X) k
  have hv := val_take_succ 1000000000 (digs 1000000000 X) k
  have he := h.eq
  rw [hv, Nat.pow_succ] at he
  have hr := h.rest
  have hs := val_set 1000000000 zs k (val 1000000000 ((digs 1000000000 X).getD k 0 :: rs) / Y) (by rw [h.len]; omega)
  rw [h.zero k (by omega), Nat.mul_zero, Nat.add_zero] at hs
  have hc : ∀ d, val 1000000000 (d :: rs) = val 1000000000 rs * 1000000000 + d := fun d => by simp only [val]; omega
  have h1 := step_lt hr hx
  rw [← hc] at h1
  have hy0 : 0 < Y := by omega
  have hq : val 1000000000 ((digs 1000000000 X).getD k 0 :: rs) / Y < 1000000000 := by rw [Nat.div_lt_iff_lt_mul hy0]; omega
  refine ⟨h1, ?_, hq, ⟨by simpa using h.len, ?_, ?_, ?_, digs_lt 1000000000 (by omega) _, ?_⟩⟩
  · intro x hx'
    rcases List.mem_cons.1 hx' with rfl | hx'
    · exact hx
    · exact h.restLt x hx'
  · intro z hz
    rcases List.mem_or_eq_of_mem_set hz with hz | hz
    · exact h.lt z hz
    · rw [hz]; exact hq
  · intro j hj
    rw [getD_set_ne _ _ _ _ (by omega)]
    exact h.zero j (by omega)
  · rw [val_digs 1000000000 (by omega)]
    exact Nat.mod_lt _ hy0
  · rw [hs, val_digs 1000000000 (by omega)]
    exact long_step he (hc _)
set_option maxHeartbeats 2000000 in
set_option maxRecDepth 100000 in
theorem long_c (A A' : Option Addr) (n c n' c' : Nat) (xs ys : List Nat) (w : World) (h : Limbs w A n xs) (h' : Limbs w A' n' ys) (gx : ∀ x ∈ xs, x < 1000000000) (gy : ∀ y ∈ ys, y < 1000000000)
    (hn : n ≤ 100000000) (hn' : n' ≤ 100000000) (hn0 : 2 ≤ n') (hL : ys.getD (n' - 1) 0 ≠ 0) (hle : val 1000000000 ys ≤ val 1000000000 xs) :
    Calls Try.prog 23 #[.slice A n c, .slice A' n' c'] w fun e w' => ∃ A1 m1 c1 A2 m2 c2, e = .returned (.tuple #[.slice A1 m1 c1, .slice A2 m2 c2]) ∧
      OwnS w' w.heap.size A1 m1 c1 (digs 1000000000 (val 1000000000 xs / val 1000000000 ys)) ∧ OwnS w' w.heap.size A2 m2 c2 (digs 1000000000 (val 1000000000 xs % val 1000000000 ys)) ∧ Below w.heap.size w w' := by
  obtain ⟨i0, hi, hz0, hz1, hz2⟩ := info_parts u32_info
  have hl := Lib.hid h.len
  have hl' := Lib.hid h'.len
  obtain ⟨last, rfl⟩ : ∃ k, n' = k + 1 := ⟨n' - 1, by omega⟩
  rw [Nat.add_sub_cancel] at hL
  have hp := pow_le_val h'.len (by omega) (by rw [Nat.add_sub_cancel]; exact hL) gy
  rw [Nat.add_sub_cancel] at hp
  have hLs := getD_lt 1000000000 (by omega) ys gy last
  obtain ⟨ad', rfl, _, hc', _⟩ := h'.at_ (k := last) (by omega)
  generalize ys.getD last 0 = L at *
  obtain ⟨F, hF⟩ : ∃ F : Nat, F = 1000000000 / (L + 1) := ⟨_, rfl⟩
  have hF1 : 1 ≤ F := by rw [hF, Nat.le_div_iff_mul_le (by omega)]; omega
  have hF2 : F ≤ 500000000 := by
    rw [hF]
    have : L + 1 ≥ 2 := by omega
    exact Nat.le_trans (Nat.div_le_div_left this (by omega)) (by omega)
  have H := Lib.hid h
  have H' := Lib.hid h'
  have GX := Lib.hid gx
  have GY := Lib.hid gy
  have HF := Lib.hid hF
  have HP := Lib.hid hp
  have HLE := Lib.hid hle
  have hL1 : 1 ≤ L := by omega
  clear h h' gx gy hF hp hle hL
  go_enter Try.func23, Try.ntmps23
  go_wp2_with fail
  rw [show (1000000000 : Int) / ((L : Int) + 1) = (F : Int) by rw [HF.out]; simp]
  refine (small_c A n c xs F 0 w H.out GX.out (by omega) (by omega) (by omega)).mono ?_
  rintro e w1 ⟨A1, m1, c1, rfl, ho, hb⟩
  rw [Nat.add_zero] at ho
  have O1 := Lib.hid ho
  have HY1 := Lib.hid (H'.out.below hb)
  have B := Lib.hid hb
  clear ho hb
  go_wp2_with fail
  refine (small_c (some ad') (last + 1) c' ys F 0 w1 HY1.out GY.out (by omega) (by omega) (by omega)).mono ?_
  rintro e w2 ⟨A2, m2, c2, rfl, ho, hb⟩
  rw [Nat.add_zero] at ho
  have O2 := Lib.hid ho
  replace O1 := Lib.hid (O1.out.keep hb rfl)
  replace B := Lib.hid (B.out.trans (hb.mono B.out.size))
  clear ho hb HY1
  have hx := val_lt 1000000000 xs GX.out
  have hy := val_lt 1000000000 ys GY.out
  have hm1 : m1 ≤ 100000001 := by
    rw [← O1.out.len]
    refine Nat.le_trans (digs_len9' (k := n + 1) ?_) (by omega)
    rw [hl.out] at hx
    rw [Nat.pow_succ]
    exact Nat.mul_lt_mul'' hx (by omega)
  have hyF : val 1000000000 ys ≤ val 1000000000 ys * F := Nat.le_mul_of_pos_right _ (by omega)
  have hm2 : last < m2 := by
    rw [← O2.out.len]
    exact digs_len_pos (Nat.le_trans HP.out hyF)
  have hm21 : m2 ≤ m1 := by
    rw [← O2.out.len, ← O1.out.len]
    exact digs_len_mono (Nat.mul_le_mul_right F HLE.out)
  have hXY : val 1000000000 xs * F / (val 1000000000 ys * F) = val 1000000000 xs / val 1000000000 ys := Nat.mul_div_mul_right _ _ (by omega)
  have hXYm : val 1000000000 xs * F % (val 1000000000 ys * F) = val 1000000000 xs % val 1000000000 ys * F := Nat.mul_mod_mul_right _ _ _
  have hy0 : 0 < val 1000000000 ys * F := Nat.lt_of_lt_of_le (Nat.pow_pos (by omega : 0 < 1000000000)) (Nat.le_trans HP.out hyF)
  have HXY := Lib.hid hXY
  have HXYM := Lib.hid hXYm
  have HY0 := Lib.hid hy0
  clear hx hy hyF hXY hXYm hy0
  generalize val 1000000000 xs * F = X at *
  generalize val 1000000000 ys * F = Y at *
  obtain ⟨N, hN⟩ : ∃ N : Nat, N = m1 - m2 + 1 := ⟨_, rfl⟩
  have hNI := Lib.hid (show (m1 : Int) - (m2 : Int) + 1 = (N : Int) by omega)
  have hN1 : N < m1 := by omega
  have hN2 : m1 + 1 = N + m2 := by omega
  clear hN
  go_wp2_with fail
  rw [hNI.out]
  obtain ⟨w3, hrun, hown, hgrow⟩ := run_make_full (P := Try.prog) w2.drew w2.heap.size 22 32 i0 (.int .u32 0) 1 Try.underlying22 hi hz0 hz1 .i64 .i64 N (by rw [hz2]; omega) (by unfold maxLen; omega) (Nat.le_refl _)
  rw [show (Value.int IntKind.u32 0).cells = #[.int .u32 0] from rfl, Nat.mul_one, made_u32, show w2.drew.heap.size = w2.heap.size from rfl] at hown
  rw [show w2.drew.heap.size = w2.heap.size from rfl] at hrun
  have W0 := Lib.hid hown
  have HG3 := Lib.hid hgrow
  clear hown hgrow
  have hcap : m1 ≤ c1 := by
    rcases O1.out.1.2 with ⟨e, e2⟩ | ⟨g, cap, cur, e, _, _, hc, _⟩
    · omega
    · simp only [Value.slice.injEq] at e
      omega
  have hNc : ¬ c1 = N := by omega
  obtain ⟨ad, hA1⟩ : ∃ ad, A1 = some ad := by
    obtain ⟨gA, cA, e, _⟩ := own_pos O1.out.1 (by omega)
    simp only [Value.slice.injEq] at e
    exact ⟨_, e.1⟩
  subst hA1
  go_region
  have hsz := Lib.hid HG3.out.size
  have HB3 := Lib.hid (B.out.drew.grown HG3.out B.out.size (fun k hk => by cases hk))
  have LA3 := Lib.hid ((O1.out.limbs.1).below ((Below.refl w2.heap.size w2).drew.grown HG3.out (Nat.le_refl _) (fun k hk => by cases hk)))
  have LB3 := Lib.hid ((O2.out.limbs.1).below ((Below.refl w2.heap.size w2).drew.grown HG3.out (Nat.le_refl _) (fun k hk => by cases hk)))
  have LR3 := LA3.out.cut (k := N) (cap := c1) (by omega) hcap
  rw [if_neg hNc, Nat.mul_one] at LR3
  have hla := O1.out.len
  have hlb := O2.out.len
  have LR := Lib.hid (show Limbs w3 (some (ad.add N)) (m1 - N) ((digs 1000000000 X).drop N) from
    ⟨by rw [u32s, ← List.map_drop] at LR3; exact LR3.more hsz.out, by omega, fun x hx => by have := digs_lt 1000000000 (by omega) X x (List.mem_of_mem_drop hx); omega⟩)
  have hst : LongAt X Y N N ((digs 1000000000 X).drop N) (List.replicate N 0) := by
    refine ⟨by simp, ?_, fun j _ => getD_replicate _ _, ?_, fun r hr => digs_lt 1000000000 (by omega) X r (List.mem_of_mem_drop hr), ?_⟩
    · intro z hz; rw [List.eq_of_mem_replicate hz]; omega
    · have h1 := val_lt 1000000000 ((digs 1000000000 X).drop N) fun r hr => digs_lt 1000000000 (by omega) X r (List.mem_of_mem_drop hr)
      rw [List.length_drop, hla, show m1 - N = m2 - 1 by omega] at h1
      exact Nat.lt_of_lt_of_le h1 (digs_pow_le hlb (by omega))
    · have h1 := val_append 1000000000 ((digs 1000000000 X).take N) ((digs 1000000000 X).drop N)
      rw [List.take_append_drop, val_digs 1000000000 (by omega), List.length_take, hla, Nat.min_eq_left (by omega)] at h1
      rw [val_replicate, Nat.mul_zero, Nat.zero_add]
      omega
  have HST := Lib.hid hst
  have HLA := Lib.hid hla
  have HLB := Lib.hid hlb
  have HLL := Lib.hid (show (digs 1000000000 Y).getD (m2 - 1) 0 ≠ 0 by
    have := tz_last (digs 1000000000 Y) (by rw [tz_digs 1000000000 (by omega), hlb]; omega)
    rwa [tz_digs 1000000000 (by omega), hlb] at this)
  have W1 := Lib.hid W0.out
  have hgs : w.heap.size ≤ w2.heap.size := B.out.size
  clear hrun LR3 hla hlb hst O1 O2 B W0 HG3 H H' hNc
  generalize hg : w2.heap.size = g at *
  have Hg := Lib.hid hg
  clear hg
  go_wp2_with fail
  go_loopw [5, 8, 40] (fun r i _ wr => ∃ (z : Int) (k m5 c5 : Nat) (A5 : Option Addr) (rs zs : List Nat), Hid (z = (k : Int) - 1) ∧ i = .int .i64 z ∧ k ≤ N ∧ r = .slice A5 m5 c5 ∧ m5 ≤ 100000001 ∧ Hid (Limbs wr A5 m5 rs) ∧
      Hid (wr.ownsRow g 32 1 (.slice (some ⟨g, 0, none⟩) N N) N (u32s zs)) ∧ Hid (Below g w3 wr) ∧ Hid (LongAt X Y N k rs zs)) (fun _ i _ _ => (intOf i + 1).toNat)
  case atStart => exact ⟨_, N, m1 - N, c1 - N, _, _, _, Lib.hid rfl, rfl, Nat.le_refl _, rfl, by omega, LR, W1, Lib.hid (Below.refl _ _), HST⟩
  case round =>
    obtain ⟨z, k, m5, c5, A5, rs, zs, hz, rfl, hk, rfl, hm5, HR, HO, HB, HAT⟩ := hrel
    have hgw : g ≤ w3.heap.size := by have := hsz.out; have := Hg.out; rw [← Hg.out]; exact hsz.out
    have hgr : g < wr.heap.size := own_lt HO.out
    have HA := Lib.hid (LA3.out.below HB.out)
    have HBb := Lib.hid (limbs_of_reads (LB3.out.below HB.out) (Nat.le_of_lt hgr) (by omega) (digs_lt 1000000000 (by omega) Y))
    rcases k with _ | k
    · obtain rfl : z = -1 := by have := hz.out; omega
      have he := HAT.out.eq
      rw [Nat.pow_zero, Nat.one_mul, List.take_zero] at he
      simp only [val, Nat.add_zero] at he
      have hq : X / Y = val 1000000000 zs := by rw [he, Nat.mul_add_div HY0.out, Nat.div_eq_of_lt HAT.out.rest, Nat.add_zero]
      have hr : X % Y = val 1000000000 rs := by rw [he, Nat.mul_add_mod, Nat.mod_eq_of_lt HAT.out.rest]
      have CS := divSmall_c A5 m5 c5 rs F wr HR.out HAT.out.restLt (by omega) (by omega) (by omega)
      rw [← hr, HXYM.out, Nat.mul_div_cancel _ (by omega)] at CS
      have HCS := Lib.hid CS
      have HQ := Lib.hid hq
      clear CS he hq hr
      go_wp2_with fail
      refine HCS.out.mono ?_
      rintro e w5 ⟨A6, m6, c6, rfl, ho, hb⟩
      have HO5 := Lib.hid ho
      have HW5 := Lib.hid (own_kept_lt HO.out hb (fun k hk => by cases hk; exact hgr))
      have s5 := hb.size
      have HB5 := Lib.hid (HB3.out.trans ((HB.out.mono hgs).trans (hb.mono (by omega))))
      clear ho hb HCS
      have HT5 := Lib.hid (show OwnS w5 g (some ⟨g, 0, none⟩) N N zs from ⟨HW5.out, by omega, fun z hz => by have := HAT.out.lt z hz; omega⟩)
      have CT := trim_c _ _ N zs w5 HT5.out.limbs (by omega)
      rw [trim_eq_digs 1000000000 (by omega) _ HAT.out.lt, ← HQ.out, HXY.out] at CT
      have HCT := Lib.hid CT
      clear CT
      go_wp2_with fail
      refine HCT.out.mono ?_
      rintro e w6 ⟨A7, m7, c7, rfl, ho, hb⟩
      have s6 := hb.size
      have HO7 := Lib.hid (ho.weaken (by omega : w.heap.size ≤ w5.heap.size))
      have HO6 := Lib.hid ((HO5.out.keep hb rfl).weaken (by omega : w.heap.size ≤ wr.heap.size))
      have HB6 := Lib.hid (HB5.out.trans (hb.mono (by omega)))
      clear ho hb HCT
      go_wp2
      go_ret2
      exact ⟨A7, m7, c7, A6, m6, c6, rfl, HO7.out, HO6.out, HB6.out⟩
    · obtain rfl : z = (k : Int) := by have := hz.out; omega
      obtain ⟨hn1, hn2, hn3, hn4⟩ := HAT.out.next (by omega)
      obtain ⟨ad2, had2, had, hc⟩ := reads_at HA.out (k := k) (by omega)
      obtain rfl : ad = ad2 := by simpa using had2
      have HX1 := Lib.hid (getD_lt 1000000000 (by omega) (digs 1000000000 X) (digs_lt 1000000000 (by omega) X) k)
      generalize (digs 1000000000 X).getD k 0 = D at *
      have N1 := Lib.hid hn1
      have N2 := Lib.hid hn2
      have N4 := Lib.hid hn4
      have HRA := Lib.hid (HR.out.below ((Below.refl wr.heap.size wr).alloc (Nat.le_refl _) (.cells #[.int .u32 (D : Int)] 32)))
      clear hn1 hn2 hn4 HAT HA LA3 had2
      go_wp2_with (at_builtin; go_must (refine wpList_app_limbs rfl (.tmp 47) (.tmp 48) _ rfl Try.underlying22 wr.heap.size _ 1 [D] rfl (own_one wr D _ rfl) A5 m5 c5 rs rfl HRA.out (by omega) ((Below.refl wr.heap.size wr).alloc (Nat.le_refl _) _) (by simp) ?_))
      intro v1 w4 ho1 hb1
      obtain ⟨g1, cap1, rfl, hg1a, hg1b, _, _⟩ := own_pos ho1.out (by omega)
      have HL4 := Lib.hid (show Limbs w4 (some ⟨g1, 0, none⟩) (1 + m5) (D :: rs) from ⟨Reads.of_own ho1.out, by omega, fun x hx => by have := N2.out x hx; omega⟩)
      have HO4 := Lib.hid (own_kept_lt HO.out hb1.out (fun k hk => by cases hk; exact hgr))
      have HB4 := Lib.hid (HBb.out.below hb1.out)
      have s4 := hb1.out.size
      have CS := step_c (some ⟨g1, 0, none⟩) A2 (1 + m5) cap1 m2 c2 (D :: rs) (digs 1000000000 Y) w4 HL4.out HB4.out N2.out (digs_lt 1000000000 (by omega) Y) (by omega) (by omega) (by omega) HLL.out (by rw [val_digs 1000000000 (by omega)]; exact N1.out)
      rw [val_digs 1000000000 (by omega)] at CS
      have hRY := Nat.mod_lt (val 1000000000 (D :: rs)) HY0.out
      generalize val 1000000000 (D :: rs) / Y = Q at *
      generalize val 1000000000 (D :: rs) % Y = R at *
      have HCS := Lib.hid CS
      clear CS
      go_wp2_with fail
      refine HCS.out.mono ?_
      rintro e w5 ⟨A6, m6, c6, rfl, ho, hb⟩
      have HO5 := Lib.hid ho
      have HW5 := Lib.hid (own_kept_lt HO4.out hb (fun k hk => by cases hk; exact Nat.lt_of_lt_of_le hgr s4))
      have HB5 := Lib.hid (hb1.out.trans (hb.mono s4))
      have hcell : w5.cell? ⟨g, k, none⟩ = some (.int .u32 ((zs.getD k 0 : Nat) : Int)) := own_at HW5.out (by omega)
      have hfr : w5.frozen? ⟨g, k, none⟩ = false := HW5.out.frozenAt k
      clear ho hb HCS
      go_wp2
      go_roundw
      case rel =>
        refine ⟨_, k, m6, c6, A6, _, _, Lib.hid rfl, rfl, by omega, rfl, ?_, Lib.hid (HO5.out.setCell_other (by omega)).limbs, Lib.hid ?_, Lib.hid (((HB.out.trans (HB5.out.mono (Nat.le_of_lt hgr)))).setCell (Nat.le_refl _) _), N4⟩
        · rw [← HO5.out.len]
          refine Nat.le_trans (digs_len_mono (Nat.le_of_lt hRY)) ?_
          rw [HLB.out]
          omega
        · rw [u32s_set]
          exact (HW5.out.stored k _).1
      case measure => simp [intOf]
end Go.Proofs.Ytmfcjjjkndfojaa
