import Derived.Test.YtpbkndmciopnjaaDoorDiv1
namespace Go.Proofs.YtpbkndmciopnjaaDoor
open Go.RowKit Go.Shelf
attribute [local go_sem] Oper.semAt_some
theorem wpIn_hide' {F : Fence} {n : Nat} {P : Program} {c : Code} {Q : Exit → Act → World → Prop} {a : Act} {w : World}
    (h : ∀ Q' : Exit → Act → World → Prop, (∀ e a w, Q e a w → Q' e a w) → c.wpIn F n P Q' a w) : c.wpIn F n P Q a w := h Q (fun _ _ _ q => q)
theorem row_own {β : Type} (base : Nat) (e : TypeId) (size : Nat) (v : Value) (k : Nat) (f : β → List Value) : Own (fun s W => W.ownsRow base e size v k (f s)) := by
  rintro s X Y row hr hg hrow
  refine hr.kept hg ?_
  rcases hr.2 with ⟨rfl, _⟩ | ⟨g, cap, cur, rfl, _, hgb, _⟩
  · exact .inl rfl
  · refine .inr fun e' => ?_
    obtain ⟨o, ho, hc⟩ := hrow g (by simpa [Value.ownBlock] using e'.symm)
    rw [hgb] at ho; cases ho; cases hc
theorem downTo_of {n : Nat} {ys : List (Pl n)} {js : List Nat} (h : ys.map (·.1) = js) {xs : List Nat} {y : Nat} : ys.foldl (fun s (i : Pl n) => dstep xs y s i.1) (0, List.replicate n 0) = drun xs y n js := by
  rw [drun, ← h, List.foldl_map]
theorem small_round {w W : World} {b0 q n i B : Nat} {y T Q : Int} {zs : List Nat} (hq : b0 + 1 < q) (Qn : Nat) (hQ : Q = (Qn : Int))
    (b1 : Boxed W b0 39 (.int .u32 y)) (b2 : Boxed W q 22 (.slice (some ⟨b0 + 1, 0, none⟩) n n)) (R : Value) (b3 : Boxed W (q + 1) 60 R)
    (ho : W.ownsRow (b0 + 1) 39 1 (.slice (some ⟨b0 + 1, 0, none⟩) n n) n (u32s zs)) (hb : Below b0 w W) :
    KeepsFrom B W ((W.setCell ⟨b0 + 1, i, none⟩ (.int .u32 Q)).setCell ⟨q + 1, 0, none⟩ (.int .u64 T)).drew ∧ Kept b0 (q + 2) W ((W.setCell ⟨b0 + 1, i, none⟩ (.int .u32 Q)).setCell ⟨q + 1, 0, none⟩ (.int .u64 T)).drew ∧
    (((Boxed ((W.setCell ⟨b0 + 1, i, none⟩ (.int .u32 Q)).setCell ⟨q + 1, 0, none⟩ (.int .u64 T)).drew b0 39 (.int .u32 y) ∧ Boxed ((W.setCell ⟨b0 + 1, i, none⟩ (.int .u32 Q)).setCell ⟨q + 1, 0, none⟩ (.int .u64 T)).drew q 22 (.slice (some ⟨b0 + 1, 0, none⟩) n n)) ∧
      Boxed ((W.setCell ⟨b0 + 1, i, none⟩ (.int .u32 Q)).setCell ⟨q + 1, 0, none⟩ (.int .u64 T)).drew (q + 1) 60 (.int .u64 T)) ∧
      ((W.setCell ⟨b0 + 1, i, none⟩ (.int .u32 Q)).setCell ⟨q + 1, 0, none⟩ (.int .u64 T)).drew.ownsRow (b0 + 1) 39 1 (.slice (some ⟨b0 + 1, 0, none⟩) n n) n (u32s (zs.set i Qn))) ∧
      Below b0 w ((W.setCell ⟨b0 + 1, i, none⟩ (.int .u32 Q)).setCell ⟨q + 1, 0, none⟩ (.int .u64 T)).drew := by
  subst hQ
  have k1 : ∀ k, k ≠ b0 + 1 → (W.setCell ⟨b0 + 1, i, none⟩ (.int .u32 (Qn : Int))).heap[k]? = W.heap[k]? := fun k hk => Below.heap_setCell _ _ _ k (fun e => hk e)
  have hr := (ho.stored i (.int .u32 (Qn : Int))).1
  rw [← u32s_set] at hr
  have hb' : ∀ {a : World}, Below b0 a W → Below b0 a ((W.setCell ⟨b0 + 1, i, none⟩ (.int .u32 (Qn : Int))).setCell ⟨q + 1, 0, none⟩ (.int .u64 T)).drew := fun h =>
    ((h.setCell (p := ⟨b0 + 1, i, none⟩) (Nat.le_succ b0) _).setCell (p := ⟨q + 1, 0, none⟩) (Nat.le_of_lt (by omega : b0 < q + 1)) _).drew
  have b3' : Boxed (W.setCell ⟨b0 + 1, i, none⟩ (.int .u32 (Qn : Int))) (q + 1) 60 R := (k1 _ (by omega)).trans b3
  refine ⟨((KeepsOthers.setCell _ _ _).trans ((KeepsOthers.setCell _ _ _).trans (KeepsOthers.drew _))).from _, ⟨hb' (Below.refl _ _), ?_⟩, ⟨⟨⟨?_, ?_⟩, b3'.set _⟩, ?_⟩, hb' hb⟩
  · exact (Below.heap_setCell _ _ _ (q + 2) (show q + 2 ≠ q + 1 by omega)).trans (k1 _ (by omega))
  · exact Boxed.other ((k1 _ (Nat.ne_of_lt (Nat.lt_succ_self b0))).trans b1) (by omega) _
  · exact Boxed.other ((k1 _ (by omega)).trans b2) (by omega) _
  · have hk := hr.kept (grownBy_setCell' (W.setCell ⟨b0 + 1, i, none⟩ (.int .u32 (Qn : Int))) (q + 1) (.int .u64 T)) (.inr (by intro e; injection e with e; change b0 + 1 = q + 1 at e; omega))
    exact hk
set_option maxHeartbeats 1000000 in
theorem divSmall_zero (A : Option Addr) (n c : Nat) (w : World) :
    Calls Tryd.prog 26 #[.slice A n c, .int .u32 0] w fun e w' => e = .returned (.tuple #[.slice none 0 0, .int .u32 0, .bool false]) ∧ Below w.heap.size w w' := by
  go_enter Tryd.func26, Tryd.ntmps26
  go_wp2
  go_ret3
  exact ⟨rfl, (Below.refl _ _).alloc (Nat.le_refl _) _⟩
set_option maxHeartbeats 2000000 in
set_option maxRecDepth 100000 in
theorem divSmall_c (A : Option Addr) (n c : Nat) (xs : List Nat) (y : Nat) (w : World) (h : Limbs w A n xs) (gx : ∀ x ∈ xs, x < 1000000000) (hn : n ≤ 900000000) (hy0 : 0 < y) (hy : y < 1000000000) :
    Calls Tryd.prog 26 #[.slice A n c, .int .u32 (y : Int)] w fun e w' => ∃ A' m' c', e = .returned (.tuple #[.slice A' m' c', .int .u32 ((val 1000000000 xs % y : Nat) : Int), .bool true]) ∧
      OwnS w' w.heap.size A' m' c' (digs 1000000000 (val 1000000000 xs / y)) ∧ Below w.heap.size w w' := by
  obtain ⟨i0, hi, hz0, hz1, hz2⟩ := info_parts u32_info
  have hyb : ((y : Int) == 0) = false := by simp; omega
  have H := Lib.hid h
  have GX := Lib.hid gx
  have HL := Lib.hid h.len
  clear h gx
  refine callsIn_wide.1 (callsIn_of_wp_marks (n := 6) Tryd.func26 rfl trivial ?_ rfl)
  refine wpIn_wide.2 ?_
  simp only [Tryd.ntmps26, List.size_toArray, List.length_cons, List.length_nil, Nat.reduceAdd, Nat.reduceSub, Array.replicate_succ, Array.replicate_zero, List.push_toArray, List.append_toArray, List.nil_append, List.cons_append]
  have HB0 := Lib.hid ((Below.refl w.heap.size w).alloc (Nat.le_refl _) (.cells #[.int .u32 (y : Int)] 39))
  go_wp2_with (at_make; refine wpList_make_full _ rfl _ _ 22 rfl (w.heap.size + 1) 39 i0 (.int .u32 0) 1 Tryd.underlying22 hi hz0 hz1 _ _ _ _ n rfl rfl ?b0 ?b1 ?b2 ?b3 ?b4 ?_)
  case b0 => omega
  case b1 => omega
  case b2 => rw [hz2]; omega
  case b3 => unfold maxLen; omega
  case b4 => simp
  intro w1 hown hgrow
  rw [made_u32] at hown
  have HB1 := Lib.hid (HB0.out.trans (((Below.refl _ _).grown hgrow (Nat.le_refl _) (fun k hk => by cases hk)).mono (by simp)))
  have bY : Boxed w1 w.heap.size 39 (.int .u32 (y : Int)) := (Boxed.new w _ _).kept hgrow (by simp)
  have hg1 : w.heap.size + 1 < w1.heap.size := by
    rcases hown.2 with ⟨h', _⟩ | ⟨g', cap', cur, h', _, hgb, _⟩
    · simp at h'
    · simp only [Value.slice.injEq, Option.some.injEq, Addr.mk.injEq, and_true, true_and] at h'
      obtain ⟨rfl, rfl⟩ := h'
      exact (Array.getElem?_eq_some_iff.1 hgb).1
  have hyc := bY.cell
  have hyf := bY.frozen
  have HO := Lib.hid hown
  have HbY := Lib.hid bY
  clear hown hgrow bY HB0
  have HR := Lib.hid (H.out.1.below HB1.out)
  generalize hb0 : w.heap.size = b0 at *
  generalize hq : w1.heap.size = q at *
  have Hb0 := Lib.hid hb0
  have Hq := Lib.hid hq
  clear hb0 hq
  go_wp2_with (go_at_call 34; refine (backward_c _ _ _ _).mono ?_; rintro e w' ⟨rfl, rfl⟩)
  obtain ⟨W1, hW1⟩ : ∃ W1 : World, w1.alloc (.cells #[.slice (some ⟨b0 + 1, 0, none⟩) n n] 22) = W1 := ⟨_, rfl⟩
  obtain ⟨W2, hW2⟩ : ∃ W2 : World, W1.alloc (.cells #[.int .u64 0] 60) = W2 := ⟨_, rfl⟩
  obtain ⟨W3, hW3⟩ : ∃ W3 : World, W2.alloc (.cells #[.slice A n c] 22) = W3 := ⟨_, rfl⟩
  have s1 : W1.heap.size = q + 1 := by rw [← hW1, World.size_alloc, Hq.out]
  have s2 : W2.heap.size = q + 2 := by rw [← hW2, World.size_alloc, s1]
  have s3 : W3.heap.size = q + 3 := by rw [← hW3, World.size_alloc, s2]
  have bQ : Boxed W1 q 22 (.slice (some ⟨b0 + 1, 0, none⟩) n n) := by rw [← hW1, ← Hq.out]; exact Boxed.new _ _ _
  have bR : Boxed W2 (q + 1) 60 (.int .u64 0) := by rw [← hW2, ← s1]; exact Boxed.new _ _ _
  have bS : Boxed W3 (q + 2) 22 (.slice A n c) := by rw [← hW3, ← s2]; exact Boxed.new _ _ _
  have e1 : ∀ {B t v}, Boxed w1 B t v → Boxed W1 B t v := fun h => by rw [← hW1]; exact h.alloc _
  have e2 : ∀ {B t v}, Boxed W1 B t v → Boxed W2 B t v := fun h => by rw [← hW2]; exact h.alloc _
  have e3 : ∀ {B t v}, Boxed W2 B t v → Boxed W3 B t v := fun h => by rw [← hW3]; exact h.alloc _
  have hO3 : W3.ownsRow (b0 + 1) 39 1 (.slice (some ⟨b0 + 1, 0, none⟩) n n) n (u32s (List.replicate n 0)) := by rw [← hW3, ← hW2, ← hW1]; exact ((HO.out.alloc _).alloc _).alloc _
  have hB3 : Below b0 w W3 := by
    rw [← hW3, ← hW2, ← hW1]
    exact ((HB1.out.alloc (by rw [Hq.out]; omega) _).alloc (by rw [World.size_alloc, Hq.out]; omega) _).alloc (by rw [World.size_alloc, World.size_alloc, Hq.out]; omega) _
  have HY3 := Lib.hid (e3 (e2 (e1 HbY.out)))
  have HQ3 := Lib.hid (e3 (e2 bQ))
  have HR3 := Lib.hid (e3 bR)
  have HS3 := Lib.hid bS
  have HO3 := Lib.hid hO3
  have HB3 := Lib.hid hB3
  have HRR := Lib.hid (H.out.1.below (by rw [Hb0.out]; exact hB3))
  have HS := Lib.hid s3
  rw [hW1, hW2, hW3]
  clear hW1 hW2 hW3 bQ bR bS e1 e2 e3 hO3 hB3 s1 s2 s3 W1 W2 HbY HO HB1 hyc hyf HR
  rw [Hq.out]
  have hg1 : b0 + 1 < q := hg1
  have HS' := HS.out
  refine (wpIn_wide (n := 6)).1 ?_
  refine wpIn_rangeFunc_ownG (n := 6) rfl (by omega) (gf := 39) (lb := #[.pointer (some ⟨q + 1 + 1, 0, none⟩)]) rfl trivial (enters_of Tryd.func39 (by kernel_rfl) rfl)
    (back_stops 5 (by omega) (q + 2) b0 A n c xs (by omega) W3 (by omega) HS3.out (by rw [← Hb0.out]; exact HRR.out)) Kept.trans (kept_b (by omega) (by omega)) (Below.refl _ _) (fun _ => rfl)
    (fun pre W => (((Boxed W b0 39 (.int .u32 (y : Int)) ∧ Boxed W q 22 (.slice (some ⟨b0 + 1, 0, none⟩) n n)) ∧ Boxed W (q + 1) 60 (.int .u64 ((drun xs y n (pre.map (·.1))).1 : Int))) ∧
      W.ownsRow (b0 + 1) 39 1 (.slice (some ⟨b0 + 1, 0, none⟩) n n) n (u32s (drun xs y n (pre.map (·.1))).2)) ∧ Below b0 w W)
    (fun _ _ _ => False)
    (OwnFrom.and (OwnFrom.and (OwnFrom.and (OwnFrom.and (Own.from (boxed_own _ _ _) _) (Own.from (boxed_own _ _ _) _)) (Own.from (boxed_own _ _ _) _)) (Own.from (row_own _ _ _ _ _ _) _)) (ownFrom_below (by rw [Hb0.out]; exact Nat.le_refl _) (by omega)))
    (fun _ _ _ _ _ hs _ _ => hs)
    ⟨⟨⟨⟨HY3.out, HQ3.out⟩, HR3.out⟩, HO3.out⟩, HB3.out⟩
    (fun x => { tmps := #[.slice A n c, .int .u32 (y : Int), undef, .pointer (some ⟨b0, 0, none⟩), .slice none 0 0, .int .u32 0, .bool false, .pointer (some ⟨q, 0, none⟩), .pointer (some ⟨q + 1, 0, none⟩), .int .i64 (x.1 : Int), .int .u32 ((xs.getD x.1 0 : Nat) : Int), undef, .int .u32 (y : Int), .bool false, .slice A n c, .int .i64 (n : Int),
      .slice (some ⟨b0 + 1, 0, none⟩) n n, .slice A n c, .func (.func 39) #[] #[.pointer (some ⟨q + 1 + 1, 0, none⟩)], .int .i64 (x.1 : Int), .int .u32 ((xs.getD x.1 0 : Nat) : Int), undef, undef, undef, undef, undef, undef, undef, undef, undef, undef, undef, undef, undef, undef, undef, undef, undef, undef, undef, undef, undef], defers := [] }) ?assign ?body ?done ?stop
  case assign =>
    intro l x W K hK
    gi_wp2
    simpa using hK
  case body =>
    rintro l pre ⟨i, hin⟩ W ⟨⟨⟨⟨b1, b2⟩, b3⟩, ho⟩, hb⟩ _
    dsimp only
    have hD := drun_snoc xs y n (pre.map (·.1)) i
    rw [show [i] = [(⟨i, hin⟩ : Pl n)].map (·.1) from rfl, ← List.map_append] at hD
    have hrl := drun_lt xs y n hy0 (pre.map (·.1))
    have hlen := drun_length xs y n (pre.map (·.1))
    generalize drun xs y n (pre.map (·.1)) = S at *
    obtain ⟨R, zs⟩ := S
    dsimp only at hrl hlen b3 ho
    have hc1 := b1.cell
    have hc2 := b2.cell
    have hc3 := b3.cell
    have hf3 := b3.frozen
    have hX := getD_lt 1000000000 (by omega) xs GX.out i
    have hq1 := quo_lt hy0 hrl hX
    have hfr := ho.frozenAt i
    have hcell : W.cell? ⟨b0 + 1, i, none⟩ = some (.int .u32 ((zs.getD i 0 : Nat) : Int)) := own_at ho (by omega)
    have HD := Lib.hid hD
    have HLEN := Lib.hid hlen
    have B1 := Lib.hid b1
    have B2 := Lib.hid b2
    have B3 := Lib.hid b3
    have HO := Lib.hid ho
    have HB := Lib.hid hb
    clear hD hlen b1 b2 b3 ho hb
    generalize hXX : xs.getD i 0 = X at *
    have HX := Lib.hid hXX
    clear hXX
    gi_wp2
    have hcast : (R : Int) * 1000000000 + (X : Int) = ((R * 1000000000 + X : Nat) : Int) := by simp
    have HT := Lib.hid (show dstep xs y (R, zs) i = ((R * 1000000000 + X) % y, zs.set i ((R * 1000000000 + X) / y)) from by rw [dstep, HX.out])
    have hTb : R * 1000000000 + X ≤ 4294967296000000000 := by omega
    rw [hcast]
    clear hcast
    generalize R * 1000000000 + X = T at *
    clear hTb
    generalize hQ : T / y = Q at *
    have hwy : IntKind.u64.wrap (y : Int) = (y : Int) := IntWalk.u64_in _ (by omega)
    have hwd : IntKind.u64.wrap ((T : Int) / (y : Int)) = (Q : Int) := by
      rw [IntWalk.up_div rfl rfl, hQ]; exact IntWalk.u64_in _ (by omega)
    have hwr : IntKind.u32.wrap (Q : Int) = (Q : Int) := IntWalk.u32_in _ (by omega)
    clear hQ
    have hyI : ¬ ((y : Int) = 0) := by omega
    have hfin := small_round (w := w) (W := W) (i := i) (B := W3.heap.size) (T := (T : Int) % (y : Int)) hg1 Q rfl B1.out B2.out _ B3.out HO.out HB.out
    have hfin2 : (drun xs y n (List.map (fun x => x.val) (pre ++ [⟨i, hin⟩]))) = (T % y, zs.set i Q) := HD.out.trans HT.out
    have HF := Lib.hid hfin
    have HF2 := Lib.hid hfin2
    clear hfin hfin2
    have hmx : Tryd.prog.follows .mixedOrders = true := by kernel_rfl
    rename_i _ _ _ a2 _ _ _ a0
    have A2 := Lib.hid a2
    have A0 := Lib.hid a0
    clear a2 a0
    refine wpIn_hide' (fun Q1 hQ1 => ?_)
    have HQ1 := Lib.hid hQ1
    clear hQ1
    clear H GX HL Hb0 Hq HY3 HQ3 HR3 HS3 HO3 HB3 HRR HS HD HLEN B1 B2 B3 HO HB HX HT hi hz0 hz1 hz2 hrl hX hn hyI HS'
    gi_region_with_o (fail)
    all_goals
      refine HQ1.out _ _ _ ?_
      clear hwy hwd hwr hcell hmx
      have a0 := A0.out
      have a2 := A2.out
      gi_wp2
      refine ⟨HF.out.1, HF.out.2.1, ?_⟩
      dsimp only
      rw [HF2.out]
      dsimp only
      rw [Int.natCast_emod]
      exact HF.out.2.2
  case done =>
    rintro D ys W hD hys ⟨⟨⟨⟨b1, b2⟩, b3⟩, ho⟩, hb⟩ hK
    rw [hys] at b3 ho
    obtain ⟨hz1', hz2', hz3'⟩ := drun_all xs y n hy0 GX.out HL.out
    have hzl := drun_length xs y n (downTo n n)
    generalize drun xs y n (downTo n n) = S at *
    obtain ⟨R, zs⟩ := S
    dsimp only at hz1' hz2' hz3' hzl b3 ho
    subst hz3'
    have hc2 := b2.cell
    have hc3 := b3.cell
    have hDg := (Array.getElem?_eq_some_iff.1 hK).1
    have HK := Lib.hid hK
    have HO := Lib.hid ho
    have HB := Lib.hid hb
    have HQ2 := Lib.hid b2
    have HQ3' := Lib.hid b3
    have HZ1 := Lib.hid hz1'
    have HZ2 := Lib.hid hz2'
    clear hys hK ho hb b1 b2 b3 hz1' hz2'
    go_wp2
    have hown3 : OwnS W.drew (b0 + 1) (some ⟨b0 + 1, 0, none⟩) n n zs := ⟨HO.out, by omega, fun z hz => by have := HZ1.out z hz; omega⟩
    have CT := trim_c _ _ n zs W.drew hown3.limbs (by omega)
    rw [trim_eq_digs 1000000000 (by omega) _ HZ1.out, HZ2.out] at CT
    have HCT := Lib.hid CT
    have hR9 := Nat.mod_lt (val 1000000000 xs) hy0
    clear CT hown3
    generalize hRe : val 1000000000 xs % y = R at *
    have HRe := Lib.hid hRe
    clear hRe
    have hwr : IntKind.u32.wrap (R : Int) = (R : Int) := IntWalk.u32_in _ (by omega)
    refine wp_region_noPanic ?_
    go_region_with (go_at_call 22; refine HCT.out.mono ?_; rintro e w5 ⟨A5, m5, c5, rfl, ho5, hb5⟩; have hc5 : w5.cell? ⟨q + 1, 0, none⟩ = some (.int .u64 (R : Int)) := (hb5.cell (p := ⟨q + 1, 0, none⟩) HQ3'.out.lt).trans hc3; have HO5 := Lib.hid ho5; have HB5 := Lib.hid hb5; clear ho5 hb5 HCT)
    all_goals refine NoPanic.normal ?_
    all_goals clear hwr
    all_goals go_wp2
    all_goals
      have HK5 : w5.heap[D]? = some (.deferred (some [])) := (HB5.out.block D hDg).trans HK.out
      have hle : b0 ≤ W.drew.heap.size := by have := HB.out.size; have := Hb0.out; show b0 ≤ W.heap.size; omega
      refine ⟨by simp, .inl ⟨_, _, rfl, run_takeDeferred HK5, ?_⟩⟩
      refine ⟨_, results_tmp3 rfl _ _ _, A5, m5, c5, by rw [HRe.out]; rfl, ?_, ?_⟩
      · rw [Hb0.out]
        exact ⟨ownsRow_putObj (HO5.out.weaken hle).1 _ HK5 rfl, (HO5.out).2⟩
      · rw [Hb0.out]
        exact (HB.out.drew.trans (HB5.out.mono hle)).trans (belowK_b (w := W3) (by omega) _ D _ _ hD HK5 rfl rfl)
  case stop =>
    rintro D c pre W _ _ h _
    exact h.elim
end Go.Proofs.YtpbkndmciopnjaaDoor
