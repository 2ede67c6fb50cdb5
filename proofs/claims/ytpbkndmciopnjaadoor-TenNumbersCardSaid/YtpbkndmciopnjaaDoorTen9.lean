import Derived.Test.YtpbkndmciopnjaaDoorTen8
import Derived.Test.YtpbkndmciopnjaaDoorRound
namespace Go.Proofs.YtpbkndmciopnjaaDoor
open Go.RowKit Go.Shelf
attribute [local go_sem] Oper.semAt_some
/-- 'out = append(out, ..)', out in a box, in a row that holds no limbs: rows of limbs stay. -/
theorem keptR_appended {W w1 : World} {n₀ B : Nat} {t e : TypeId} {v v' : Value} {k m : Nat} {xs ys : List Value} {tmp : Obj}
    (hv : Boxed W B t v) (ht : t ≠ 39) (he : e ≠ 39) (hrow : W.ownsRow n₀ e 1 v k xs) (hn₀ : n₀ ≤ W.heap.size) (hB : n₀ ≤ B)
    (_hown' : w1.ownsRow n₀ e 1 v' m ys) (hgrow : (W.alloc tmp).grownBy w1 v.ownBlock) : KeptR n₀ W (w1.setCell ⟨B, 0, none⟩ v') := by
  refine ⟨?_, fun j cs fz hj => ?_⟩
  · refine (((Below.refl n₀ W).alloc hn₀ tmp).grown hgrow (by simp; omega) fun j ej => (hrow.lt j ej).1).setCell (p := ⟨B, 0, none⟩) hB v'
  · have hlt := (Array.getElem?_eq_some_iff.1 hj).1
    refine (Below.heap_setCell _ _ _ j (fun e' => ?_)).trans ((hgrow.block j (by simp; omega) (fun e' => ?_)).trans ((Below.heap_alloc W tmp j hlt).trans hj))
    · subst e'
      rw [show W.heap[j]? = _ from hv] at hj
      simp only [Option.some.injEq, Obj.cells.injEq] at hj
      exact ht hj.2.1
    · rcases hrow.2 with ⟨rfl, _⟩ | ⟨gb, cap, cur, rfl, _, hgb, _⟩
      · simp [Value.ownBlock] at e'
      · obtain rfl : gb = j := by simpa [Value.ownBlock] using e'.symm
        rw [hgb] at hj
        simp only [Option.some.injEq, Obj.cells.injEq] at hj
        exact he hj.2.1
set_option maxHeartbeats 2000000 in
set_option maxRecDepth 100000 in
theorem tenDigits_c (A : Option Addr) (n c : Nat) (xs : List Nat) (w : World) (h : Limbs w A n xs) (gx : ∀ x ∈ xs, x < 1000000000) (hn : n ≤ 100000000) (hP : Pw w) :
    Calls Tryd.prog 12 #[.slice A n c] w fun e w' => ∃ s', e = .returned (.string s') ∧ IsD s' (orZero (decs (val 1000000000 xs))) ∧ Below w.heap.size w w' := by
  obtain ⟨i0, hi, hz0, hz1, hz2⟩ := info_parts u8_info
  have H := Lib.hid h
  have GX := Lib.hid gx
  have HPW := Lib.hid hP
  clear h gx hP
  refine callsIn_wide.1 (callsIn_of_wp_marks (n := 6) Tryd.func12 rfl trivial ?_ rfl)
  refine wpIn_wide.2 ?_
  simp only [Tryd.ntmps12, List.size_toArray, List.length_cons, List.length_nil, Nat.reduceAdd, Nat.reduceSub, Array.replicate_succ, Array.replicate_zero, List.push_toArray, List.append_toArray, List.nil_append, List.cons_append]
  go_wp2_with (at_make; refine wpList_make_own _ rfl _ _ 41 rfl w.heap.size 5 i0 (.int .u8 0) 1 Tryd.underlying41 hi hz0 hz1 _ _ _ (9 * n) rfl rfl ?b1 ?b2 ?b3 (Nat.le_refl _) ?_)
  case b1 => omega
  case b2 => rw [hz2]; omega
  case b3 => unfold maxLen; omega
  intro w1 hown hgrow
  have hb1 : Below w.heap.size w w1 := (Below.refl _ _).grown hgrow (Nat.le_refl _) (fun k hk => by cases hk)
  have hgs : w.heap.size < w1.heap.size := (hown.lt (w.heap.size) rfl).2
  have HO := Lib.hid hown
  have HB1 := Lib.hid hb1
  clear hown hb1 hgrow
  go_wp2_with (go_at_call 23; refine (fromEnd_c _ _ _ _).mono ?_; rintro e w' ⟨rfl, rfl⟩)
  obtain ⟨g, hg⟩ : ∃ g : Nat, w.heap.size = g := ⟨_, rfl⟩
  obtain ⟨q, hq⟩ : ∃ q : Nat, w1.heap.size = q := ⟨_, rfl⟩
  rw [hg] at hgs HO HB1
  rw [hq] at hgs
  obtain ⟨W1, hW1⟩ : ∃ W1 : World, w1.alloc (.cells #[.slice (some ⟨g, 0, none⟩) 0 (9 * n)] 41) = W1 := ⟨_, rfl⟩
  obtain ⟨W2, hW2⟩ : ∃ W2 : World, W1.alloc (.cells #[.slice A n c] 22) = W2 := ⟨_, rfl⟩
  have s1 : W1.heap.size = q + 1 := by rw [← hW1, World.size_alloc, hq]
  have s2 : W2.heap.size = q + 2 := by rw [← hW2, World.size_alloc, s1]
  have bN : Boxed W2 q 41 (.slice (some ⟨g, 0, none⟩) 0 (9 * n)) := by
    rw [← hW2]
    refine Boxed.alloc ?_ _
    rw [← hW1, ← hq]
    exact Boxed.new _ _ _
  have bS : Boxed W2 (q + 1) 22 (.slice A n c) := by rw [← hW2, ← s1]; exact Boxed.new _ _ _
  have hO2 : W2.ownsRow g 5 1 (.slice (some ⟨g, 0, none⟩) 0 (9 * n)) 0 [] := by rw [← hW2, ← hW1]; exact (HO.out.alloc _).alloc _
  have hB2 : Below g w W2 := by
    rw [← hW2, ← hW1]
    exact (HB1.out.alloc (by omega) _).alloc (by simp; omega) _
  have hL2 : Limbs W2 A n xs := H.out.below (by rw [hg]; exact hB2)
  have hG : 0 < g := by rw [← hg]; exact HPW.out.blk
  have hys : ∀ x ∈ trim xs, x < 1000000000 := fun x hx => GX.out x (List.mem_of_mem_take hx)
  have hyl := trim_length xs
  have hyv := val_trim 1000000000 xs
  have htz : tz xs ≤ 100000000 := by have := tz_le xs; rw [H.out.len] at this; omega
  have hst := end_stops 5 (q + 1) g A n c xs (by omega) W2 bS hL2
  generalize trim xs = ys at *
  generalize tz xs = T at *
  rw [hq, hg, hW1, hW2]
  clear hW1 hW2
  refine (wpIn_wide (n := 6)).1 ?_
  refine wpIn_rangeFunc_ownG (n := 6) rfl (by omega) (gf := 29) (lb := #[.pointer (some ⟨q + 1, 0, none⟩)]) rfl trivial (enters_of Tryd.func29 (by kernel_rfl) rfl)
    hst KeptR.trans (keptR_b (by omega)) (Below.refl _ _) (fun _ => rfl)
    (fun pre W => (∃ v, Boxed W q 41 v ∧ W.ownsRow g 5 1 v (9 * pre.length) (u8s (asc (limbDs ys (pre.map (·.1))))) ∧ True) ∧ Below g w W)
    (fun _ _ _ => False)
    (OwnFrom.and (Own.from (holdsRow_own g q 41 5 1 (fun pre : List (Pl T) => 9 * pre.length) (fun pre => u8s (asc (limbDs ys (pre.map (·.1))))) (fun _ _ => True)) _) (ownFrom_below (by omega) (by omega)))
    (fun _ _ _ _ _ hs _ _ => hs)
    ⟨⟨_, bN, hO2, trivial⟩, hB2⟩
    (fun x => { tmps := #[.slice A n c, undef, .string { data := #[] }, .pointer (some ⟨q, 0, none⟩), .int .u32 ((ys.getD x.1 0 : Nat) : Int), undef, undef, .slice A n c, .int .i64 (n : Int), .int .i64 (9 * (n : Int)),
      .slice (some ⟨g, 0, none⟩) 0 (9 * n), .slice A n c, .func (.func 29) #[] #[.pointer (some ⟨q + 1, 0, none⟩)], .int .u32 ((ys.getD x.1 0 : Nat) : Int), undef,
      undef, undef, undef, undef, undef, undef, undef, undef, undef, undef, undef, undef, undef, undef, undef, undef, undef, undef, undef, undef, undef], defers := [] }) ?assign ?body ?done ?stop
  case assign =>
    intro l x W K hK
    gi_wp2
    simpa using hK
  case body =>
    rintro l pre ⟨i, hin⟩ W ⟨⟨v0, b1, ho, -⟩, hb⟩ hpl
    dsimp only
    have hx := getD_lt 1000000000 (by omega) ys hys i
    have hsn := limbDs_snoc ys (pre.map (·.1)) i
    rw [show [i] = [(⟨i, hin⟩ : Pl T)].map (·.1) from rfl, ← List.map_append] at hsn
    have hplT : pre.length ≤ 100000000 := by omega
    have hdl := limbDs_lt ys (pre.map (·.1))
    have HSN := Lib.hid hsn
    have HDL := Lib.hid hdl
    clear hsn hdl
    generalize limbDs ys (pre.map (·.1)) = ds at *
    generalize ys.getD i 0 = X at *
    have HX := Lib.hid hx
    have B1 := Lib.hid b1
    have HO1 := Lib.hid ho
    have HB := Lib.hid hb
    clear hx b1 ho hb hys hyl hyv hst bN bS hO2 hB2 hL2 HO HB1
    gi_wp2
    gi_loopw [14] (fun iv wr => ∃ (k : Nat) (v : Value), k ≤ 9 ∧ iv = .int .i64 (k : Int) ∧ Boxed wr q 41 v ∧ wr.ownsRow g 5 1 v (9 * pre.length + k) (u8s (asc (ds ++ nineK X k))) ∧ Below g w wr ∧
        KeepsFrom W2.heap.size W wr ∧ KeptR g W wr) (fun iv _ => 9 - (intOf iv).toNat)
    case atStart => exact ⟨0, v0, by omega, rfl, B1.out, by rw [show nineK X 0 = [] from rfl, List.append_nil]; exact HO1.out, HB.out, KeepsFrom.refl _ _, KeptR.refl _ _⟩
    case round =>
      obtain ⟨k, v, hk, rfl, b2, ho2, hb2, hk2, hr2⟩ := hrel
      have B2 := Lib.hid b2
      have HO2 := Lib.hid ho2
      have HB2 := Lib.hid hb2
      have HK2 := Lib.hid hk2
      have HR2 := Lib.hid hr2
      clear b2 ho2 hb2 hk2 hr2
      by_cases hk9 : k < 9
      · obtain ⟨j, hj⟩ : ∃ j : Nat, j = 8 - k := ⟨_, rfl⟩
        have hpw := (HPW.out.below' HB2.out hG) j (by omega)
        have hpw9 := pow_lt9 j (by omega)
        have hpp := pow_pos10 j
        have hns := nineK_succ X k
        rw [← hj] at hns
        obtain ⟨PW, hPW⟩ : ∃ PW : Nat, 10 ^ j = PW := ⟨_, rfl⟩
        rw [hPW] at hpw hpw9 hpp hns
        have hxb := HX.out
        obtain ⟨Y, hY⟩ : ∃ Y : Nat, X / PW = Y := ⟨_, rfl⟩
        rw [hY] at hns
        have hYb : Y < 1000000000 := by rw [← hY]; exact Nat.lt_of_le_of_lt (Nat.div_le_self _ _) hxb
        have HNS := Lib.hid hns
        have hjI : (8 : Int) - (k : Int) = (j : Int) := by omega
        clear hns hPW
        gi_wp2
        have hwd : wr.drew.cell? ⟨0, j, none⟩ = some (.int .u32 (PW : Int)) := hpw
        have hbx : wr.drew.cell? ⟨q, 0, none⟩ = some v := B2.out.cell
        obtain ⟨D, hD⟩ : ∃ D : Nat, Y % 10 = D := ⟨_, rfl⟩
        have q1 : IntKind.i64.wrap (8 - (k : Int)) = (j : Int) := by rw [hjI]; exact IntWalk.i64_in _ (by omega)
        have q2 : IntKind.u32.wrap ((X : Int) / (PW : Int)) = (Y : Int) := by rw [show (X : Int) / (PW : Int) = (Y : Int) by rw [← hY]; exact (Int.natCast_ediv X PW).symm]; exact IntWalk.u32_in _ (by omega)
        have q3 : IntKind.u32.wrap ((Y : Int) % 10) = (D : Int) := by rw [show (Y : Int) % 10 = (D : Int) by omega]; exact IntWalk.u32_in _ (by omega)
        have q3' : (Y : Int).tmod 10 = (D : Int) := by rw [← hD]; rfl
        have q2' : (X : Int).tdiv (PW : Int) = (Y : Int) := by rw [← hY]; rfl
        have hDb : D < 10 := by omega
        have q4 : IntKind.u32.wrap (48 + (D : Int)) = 48 + (D : Int) := IntWalk.u32_in _ (by omega)
        have q5 : IntKind.u8.wrap (48 + (D : Int)) = 48 + (D : Int) := IntWalk.u8_in _ (by omega)
        have q6 : ¬ (PW = 0) := by omega
        have q9 : IntKind.u32.wrap (Y : Int) = (Y : Int) := IntWalk.u32_in _ (by omega)
        have q10 : IntKind.u32.wrap (D : Int) = (D : Int) := IntWalk.u32_in _ (by omega)
        have q7 : (0 : Int) ≤ (j : Int) := by omega
        have q8 : (j : Int) < 9 := by omega
        have HY := Lib.hid hY
        have HD := Lib.hid hD
        have HJ := Lib.hid hj
        rw [hD] at HNS
        clear hY hD hj hpw hjI hpw9 hpp hxb hYb hg hq s1 htz hpl
        refine wpIn_region_held (S := fun w' => w'.cell? ⟨0, j, none⟩ = some (.int .u32 (PW : Int))) (by kernel_rfl) (by kernel_rfl) hwd ?_
        intro hHeld
        refine' wpAnyH_take (i := 1) (v := _) rfl (by kernel_rfl) (by kernel_rfl) (by kernel_rfl) (fun _ _ _ h => h) (Or.inl ⟨by rfl, ?yh1⟩) hHeld ?rh1
        case yh1 =>
          intro w hSw
          try dsimp only at hSw
          go_simp
          try with_reducible rfl
        try simp only [Act.put, List.setIfInBounds_toArray]
        refine' wpAnyH_take (i := 2) (v := _) rfl (by kernel_rfl) (by kernel_rfl) (by kernel_rfl) (fun _ _ _ h => h) (Or.inl ⟨by rfl, ?yh2⟩) hHeld ?rh2
        case yh2 =>
          intro w hSw
          try dsimp only at hSw
          go_simp
          try with_reducible rfl
        try simp only [Act.put]
        refine' wpAnyH_take (i := 3) (v := _) rfl (by kernel_rfl) (by kernel_rfl) (by kernel_rfl) (fun _ _ _ h => h) (Or.inl ⟨by rfl, ?yh3⟩) hHeld ?rh3
        case yh3 =>
          intro w hSw
          try dsimp only at hSw
          go_simp
          try with_reducible rfl
        try simp only [Act.put]
        refine' wpAnyH_take (i := 4) (v := _) rfl (by kernel_rfl) (by kernel_rfl) (by kernel_rfl) (fun _ _ _ h => h) (Or.inl ⟨by rfl, ?yh4⟩) hHeld ?rh4
        case yh4 =>
          intro w hSw
          try dsimp only at hSw
          go_simp
          try with_reducible rfl
        try simp only [Act.put]
        refine' wpAnyH_take (i := 5) (v := _) rfl (by kernel_rfl) (by kernel_rfl) (by kernel_rfl) (fun _ _ _ h => h) (Or.inl ⟨by rfl, ?yh5⟩) hHeld ?rh5
        case yh5 =>
          intro w hSw
          try dsimp only at hSw
          go_simp
          try with_reducible rfl
        try simp only [Act.put]
        refine' wpAnyH_take (i := 6) (v := _) rfl (by kernel_rfl) (by kernel_rfl) (by kernel_rfl) (fun _ _ _ h => h) (Or.inl ⟨by rfl, ?yh6⟩) hHeld ?rh6
        case yh6 =>
          intro w hSw
          try dsimp only at hSw
          go_simp
          try with_reducible rfl
        try simp only [Act.put]
        refine' wpAnyH_take (i := 7) (v := _) rfl (by kernel_rfl) (by kernel_rfl) (by kernel_rfl) (fun _ _ _ h => h) (Or.inl ⟨by rfl, ?yh7⟩) hHeld ?rh7
        case yh7 =>
          intro w hSw
          try dsimp only at hSw
          go_simp
          try with_reducible rfl
        try simp only [Act.put]
        refine' wpAnyH_take (i := 8) (v := _) rfl (by kernel_rfl) (by kernel_rfl) (by kernel_rfl) (fun _ _ _ h => h) (Or.inl ⟨by rfl, ?yh8⟩) hHeld ?rh8
        case yh8 =>
          intro w hSw
          try dsimp only at hSw
          go_simp
          try with_reducible rfl
        try simp only [Act.put]
        refine' wpAnyH_take (i := 9) (v := _) rfl (by kernel_rfl) (by kernel_rfl) (by kernel_rfl) (fun _ _ _ h => h) (Or.inl ⟨by rfl, ?yh9⟩) hHeld ?rh9
        case yh9 =>
          intro w hSw
          try dsimp only at hSw
          go_simp
          try with_reducible rfl
        try simp only [Act.put]
        have hbd : Boxed wr.drew q 41 v := B2.out
        have hod : wr.drew.ownsRow g 5 1 v (9 * pre.length + k) (u8s (asc (ds ++ nineK X k))) := HO2.out
        have hbx2 : (wr.drew.alloc (.cells #[.int .u8 (48 + (D : Int))] 5)).cell? ⟨q, 0, none⟩ = some v := (hbd.alloc _).cell
        have hszd : g ≤ wr.drew.heap.size := by have h1 := B2.out.lt; change g ≤ wr.heap.size; omega
        have HBD := Lib.hid hbd
        have HOD := Lib.hid hod
        have HSD := Lib.hid hszd
        have hszw : g ≤ wr.heap.size := hszd
        have hbx3 : (wr.alloc (.cells #[.int .u8 (48 + (D : Int))] 5)).cell? ⟨q, 0, none⟩ = some v := hbx2
        clear hbd hod hszd
        refine wpAnyH_ready (rs := [0, 10]) (by kernel_rfl) (by simp) ?_
        refine AllReadyH.cons rfl (fun K hK => ?_) ?_
        · go_simp
          refine hK.out _ _ ?_ (fun hHeld => ?_)
          · exact hHeld
          clear hK K
          try simp only [Act.put, List.setIfInBounds_toArray, List.set_cons_zero, List.set_cons_succ]
          refine wpAnyH_ready (rs := [10]) (by kernel_rfl) (by simp) ?_
          refine AllReadyH.cons rfl (fun K hK => ?_) ?_
          · go_simp
            refine hK.out _ _ ?_ (fun hHeld => ?_)
            · exact (World.cell?_alloc_some _ _ _ (Option.isSome_iff_exists.2 ⟨_, hHeld⟩)).trans hHeld
            clear hK K
            try simp only [Act.put, List.setIfInBounds_toArray, List.set_cons_zero, List.set_cons_succ]
            refine wpAnyH_ready (rs := [11]) (by kernel_rfl) (by simp) ?_
            refine AllReadyH.cons rfl (fun K hK => ?_) ?_
            · refine step_append_lies _ (by rfl) (.tmp 17) (.tmp 27) _ (by rfl) g 5 i0 (.int .u8 0) 1 1 Tryd.underlying41 hi hz0 hz1 hz2 rfl (by decide) v _ _ (by rfl) (HOD.out.alloc _) ⟨wr.drew.heap.size, 0, none⟩ 1 1 [.int .u8 (48 + (D : Int))] (by rfl) (by rfl) (cells_one wr.drew _ _) (by simp [Value.oneCell']) (by omega) (by unfold maxLen; omega) (by omega) (by simp; omega) _ rfl ?_
              intro g' cap w1 hown1 hgrow hat hlt
              refine hK.out _ _ ?_ (fun hHeld => ?_)
              · exact (hgrow.cell_far ⟨0, j, none⟩ (World.block_lt_of_cell? _ _ hHeld) (fun e => by have := (HOD.out.lt _ e.symm).1; change g ≤ 0 at this; omega)).trans hHeld
              clear hK K
              try simp only [Act.put, List.setIfInBounds_toArray]
              obtain ⟨hv1, hv2, hr2, hk2, hb2⟩ := HBD.out.appended (by decide) HOD.out HSD.out (by omega) hown1 hgrow
              have hrr := keptR_appended HBD.out (by decide) (by decide) HOD.out HSD.out (by omega) hown1 hgrow
              have hc1 := hv1.cell
              have hf1 := hv1.frozen
              have HV2 := Lib.hid hv2
              have HR3 := Lib.hid hr2
              have HK3 := Lib.hid hk2
              have HB3 := Lib.hid hb2
              have HRR := Lib.hid hrr
              clear hv1 hv2 hr2 hk2 hb2 hrr hown1 hgrow hat
              refine wpAnyH_ready (rs := [12]) (by kernel_rfl) (by simp) ?_
              refine AllReadyH.cons rfl (fun K hK => ?_) ?_
              · go_simp
                refine hK.out _ _ ?_ (fun hHeld => ?_)
                · exact (World.cell?_setCell_far _ ⟨q, 0, none⟩ ⟨0, j, none⟩ _ (by simp; omega)).trans hHeld
                clear hK K
                try simp only [Act.put, List.setIfInBounds_toArray, List.set_cons_zero, List.set_cons_succ]
                refine wpAnyH_done (by kernel_rfl) ?_ _
                refine Calm.normal ?_
                clear q1 q2 q3 q3' q2' q4 q5 q6 q7 q8 q9 q10 hc1 hf1 hHeld hlt
                gi_wp2
                go_roundw
                case rel =>
                  refine ⟨k + 1, _, by omega, by go_num, HV2.out, ?_, HB2.out.drew.trans HB3.out, HK2.out.trans (((KeepsOthers.drew _).trans HK3.out).from _), HR2.out.trans ⟨(Below.refl g wr).drew.trans HRR.out.1, HRR.out.2⟩⟩
                  rw [HNS.out, ← List.append_assoc, asc_append, u8s_append]
                  exact HR3.out
                case measure => simp [intOf]; omega
              exact AllReadyH.nil
            exact AllReadyH.nil
          exact AllReadyH.nil
        refine AllReadyH.cons rfl (fun K hK => ?_) ?_
        · go_simp
          refine hK.out _ _ ?_ (fun hHeld => ?_)
          · exact (World.cell?_alloc_some _ _ _ (Option.isSome_iff_exists.2 ⟨_, hHeld⟩)).trans hHeld
          clear hK K
          try simp only [Act.put, List.setIfInBounds_toArray, List.set_cons_zero, List.set_cons_succ]
          refine wpAnyH_ready (rs := [0]) (by kernel_rfl) (by simp) ?_
          refine AllReadyH.cons rfl (fun K hK => ?_) ?_
          · go_simp
            refine hK.out _ _ ?_ (fun hHeld => ?_)
            · exact hHeld
            clear hK K
            try simp only [Act.put, List.setIfInBounds_toArray, List.set_cons_zero, List.set_cons_succ]
            refine wpAnyH_ready (rs := [11]) (by kernel_rfl) (by simp) ?_
            refine AllReadyH.cons rfl (fun K hK => ?_) ?_
            · refine step_append_lies _ (by rfl) (.tmp 17) (.tmp 27) _ (by rfl) g 5 i0 (.int .u8 0) 1 1 Tryd.underlying41 hi hz0 hz1 hz2 rfl (by decide) v _ _ (by rfl) (HOD.out.alloc _) ⟨wr.drew.heap.size, 0, none⟩ 1 1 [.int .u8 (48 + (D : Int))] (by rfl) (by rfl) (cells_one wr.drew _ _) (by simp [Value.oneCell']) (by omega) (by unfold maxLen; omega) (by omega) (by simp; omega) _ rfl ?_
              intro g' cap w1 hown1 hgrow hat hlt
              refine hK.out _ _ ?_ (fun hHeld => ?_)
              · exact (hgrow.cell_far ⟨0, j, none⟩ (World.block_lt_of_cell? _ _ hHeld) (fun e => by have := (HOD.out.lt _ e.symm).1; change g ≤ 0 at this; omega)).trans hHeld
              clear hK K
              try simp only [Act.put, List.setIfInBounds_toArray]
              obtain ⟨hv1, hv2, hr2, hk2, hb2⟩ := HBD.out.appended (by decide) HOD.out HSD.out (by omega) hown1 hgrow
              have hrr := keptR_appended HBD.out (by decide) (by decide) HOD.out HSD.out (by omega) hown1 hgrow
              have hc1 := hv1.cell
              have hf1 := hv1.frozen
              have HV2 := Lib.hid hv2
              have HR3 := Lib.hid hr2
              have HK3 := Lib.hid hk2
              have HB3 := Lib.hid hb2
              have HRR := Lib.hid hrr
              clear hv1 hv2 hr2 hk2 hb2 hrr hown1 hgrow hat
              refine wpAnyH_ready (rs := [12]) (by kernel_rfl) (by simp) ?_
              refine AllReadyH.cons rfl (fun K hK => ?_) ?_
              · go_simp
                refine hK.out _ _ ?_ (fun hHeld => ?_)
                · exact (World.cell?_setCell_far _ ⟨q, 0, none⟩ ⟨0, j, none⟩ _ (by simp; omega)).trans hHeld
                clear hK K
                try simp only [Act.put, List.setIfInBounds_toArray, List.set_cons_zero, List.set_cons_succ]
                refine wpAnyH_done (by kernel_rfl) ?_ _
                refine Calm.normal ?_
                clear q1 q2 q3 q3' q2' q4 q5 q6 q7 q8 q9 q10 hc1 hf1 hHeld hlt
                gi_wp2
                go_roundw
                case rel =>
                  refine ⟨k + 1, _, by omega, by go_num, HV2.out, ?_, HB2.out.drew.trans HB3.out, HK2.out.trans (((KeepsOthers.drew _).trans HK3.out).from _), HR2.out.trans ⟨(Below.refl g wr).drew.trans HRR.out.1, HRR.out.2⟩⟩
                  rw [HNS.out, ← List.append_assoc, asc_append, u8s_append]
                  exact HR3.out
                case measure => simp [intOf]; omega
              exact AllReadyH.nil
            exact AllReadyH.nil
          exact AllReadyH.nil
        exact AllReadyH.nil
      · obtain rfl : k = 9 := by omega
        gi_wp2
        refine ⟨HK2.out, HR2.out, ⟨v, B2.out, ?_, trivial⟩, HB2.out⟩
        rw [HSN.out, show 9 * (pre ++ [(⟨i, hin⟩ : Pl T)]).length = 9 * pre.length + 9 by simp; omega]
        exact HO2.out
  case done =>
    rintro D zs W hD hzs ⟨⟨v0, b1, ho, -⟩, hb⟩ hK
    have hzl : zs.length = T := by
      have := congrArg List.length hzs
      simpa [downTo] using this
    rw [hzs, hzl] at ho
    have hdv := limbDs_all ys T hyl hys
    rw [hyv] at hdv
    have hdl := limbDs_lt ys (downTo T T)
    have hdn := limbDs_length ys (downTo T T)
    rw [show (downTo T T).length = T by simp [downTo]] at hdn
    generalize limbDs ys (downTo T T) = ds at *
    have hc1 := b1.cell
    have HOW := Lib.hid ho
    obtain ⟨s1', hconv, hsd⟩ := conv_own ho (asc_lt ds hdl)
    have hIs : IsD s1' ds := ⟨hsd, hdl⟩
    have CT := trimLeft_c s1' ds W hIs (by rw [hIs.size]; omega)
    rw [stripZ_eq ds hdl, hdv] at CT
    have HCT := Lib.hid CT
    have HK := Lib.hid hK
    have HB := Lib.hid hb
    have HB1 := Lib.hid b1
    clear CT hIs hsd hdl hdv hdn hzl hzs hK hb b1 ho hys hyl hyv hst bN bS hO2 hB2 hL2 HO hG
    go_wp2_with fail
    refine HCT.out.mono ?_
    rintro e w' ⟨s', rfl, hs', rfl⟩
    have HBE := fun (o : Obj) => Lib.hid (HB.out.trans (belowK_b (w := W2) (by omega) _ D _ o hD HK.out rfl rfl))
    rcases hdd : decs (val 1000000000 xs) with _ | ⟨d, r⟩
    · rw [hdd] at hs'
      obtain rfl := IsD.ext hs' IsD.nil
      have HDD := Lib.hid hdd
      clear hs' hdd
      go_wp2
      refine ⟨by simp, .inl ⟨_, _, rfl, run_takeDeferred HK.out, ?_⟩⟩
      exact ⟨_, results_tmp rfl _ _ _, _, rfl, by rw [HDD.out]; exact isD_zero, by rw [hg]; exact (HBE _).out⟩
    · rw [hdd] at hs'
      have hne : s'.toList ≠ [] := fun e => by
        have h1 := hs'.list
        rw [e] at h1
        simp at h1
      have hb2 : s'.toList.isEmpty = false := by
        cases hh : s'.toList with
        | nil => exact absurd hh hne
        | cons => rfl
      have hb3 : (!s'.toList.isEmpty) = true := by rw [hb2]; rfl
      have HS := Lib.hid hs'
      have HDD := Lib.hid hdd
      clear hs' hdd hne
      go_wp2
      refine ⟨by simp, .inl ⟨_, _, rfl, run_takeDeferred HK.out, ?_⟩⟩
      exact ⟨_, results_tmp rfl _ _ _, _, rfl, by rw [HDD.out]; exact HS.out, by rw [hg]; exact (HBE _).out⟩
  case stop =>
    rintro D c pre W _ _ h _
    exact h.elim
end Go.Proofs.YtpbkndmciopnjaaDoor
