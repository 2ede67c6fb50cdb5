/-
  PI: slices.Grow and slices.Concat of elements.
-/
import Derived.Lib.AppendZeros
import Derived.Test.YtbjelkejifgnfaaGreatDoorPG
set_option maxRecDepth 100000
namespace Go.Proofs.YtbjelkejifgnfaaGreatDoor
open Go.RowKit
/-- 'append(list, es...)' of a slice of elements, which may be nil. -/
theorem wpList_app_els {W w0 : World} {ops : Array Oper} {rest : List Oper} {o : Oper} {a : Act} {Q : Exit → Act → World → Prop} (hgd : o.guard = none) (s x : Operand) (t : TypeId)
    (ho : o.op = .call { callee := .builtin .append, args := #[s, x], argTypes := #[t, t] }) (ht : Tryz.prog.underlying t = some (.slice 83))
    (base : Nat) (v : Value) (k : Nat) (xs : List El) (hs : a.eval s = v) (hown : W.ownsRow base 83 1 v k (xs.map pE)) {D : Nat} (A : Option Addr) (m c : Nat) (ys : List El)
    (hx : a.eval x = .slice A m c) (hr : Pls W D A m ys) (hcp : Cp A m c) (hk : k + m ≤ 1000000000000) (hb : Below base w0 W) (hbase : base ≤ W.heap.size)
    (h : ∀ v' w', Hid (w'.ownsRow base 83 1 v' (k + m) ((xs ++ ys).map pE)) → Hid (Below base w0 w') → wpList Tryz.prog ops Q rest (a.put o.dst v') w') :
    wpList Tryz.prog ops Q (o :: rest) a W := by
  obtain ⟨i0, hi, hz0, hz1, hz2⟩ := info_parts pelm_info
  have hl := hr.len
  cases A with
  | none =>
    obtain rfl : c = 0 := hcp.2 rfl
    obtain rfl : m = 0 := by have := hcp.1; omega
    have : ys = [] := List.eq_nil_of_length_eq_zero hl
    subst this
    refine wpList_append_own_none hgd s x t ho base 83 i0 1 ht hi v k _ hs hown hx ?_
    refine h v W ?_ (Lib.hid hb)
    rw [List.append_nil]; exact Lib.hid hown
  | some ad =>
    refine wpList_append_own _ hgd s x t ho base 83 i0 .nilIface 1 16 ht hi hz0 hz1 hz2 rfl (by decide) v k _ hs hown ad m c (ys.map pE) hx (by rw [List.length_map, hl, Nat.mul_one]) ?_ ?_ ?_ ?_ hbase ?_
    · intro j u hu
      have hj : j < m := by
        have := (List.getElem?_eq_some_iff.1 hu).1
        rw [List.length_map, hl] at this; exact this
      obtain ⟨ad', e, _, hc⟩ := hr.1.2 (by omega)
      obtain rfl := Option.some.inj e
      exact hc j u hu
    · intro u hu
      obtain ⟨e, -, rfl⟩ := List.mem_map.1 hu
      obtain ⟨T, y, hT⟩ := pE_form e
      rw [hT]; rfl
    · unfold maxLen; omega
    · omega
    · intro v' w' h1 h2 _
      refine h v' w' ?_ ?_
      · rw [List.map_append]; exact Lib.hid h1
      · exact Lib.hid (hb.grown h2 hbase fun j hj => (hown.lt j hj).1)
theorem elm_int : Tryz.prog.underlying 3 = some (.int .i64) := Tryz.underlying3
set_option maxHeartbeats 1000000 in
theorem grow_c (n : Nat) (w : World) (hn : n ≤ 1000000) : Calls Tryz.prog 75 #[.slice none 0 0, .int .i64 (n : Int)] w fun e w' =>
    ∃ v, e = .returned v ∧ Hid (w'.ownsRow w.heap.size 83 1 v 0 []) ∧ Hid (Below w.heap.size w w') := by
  have g0 : decide ((n : Int) < 0) = false := decide_eq_false (by omega)
  have g1 : IntKind.i64.wrap ((n : Int) - 0) = (n : Int) := by rw [Int.sub_zero]; exact wrap_small _ (by omega) (by omega)
  by_cases h0 : 0 < n
  · obtain ⟨i0, hi, hz0, hz1, hz2⟩ := info_parts pelm_info
    have hr := Lib.run_append_nil_zeros (P := Tryz.prog) w 47 3 47 83 i0 .nilIface .i64 .i64 Tryz.underlying47 Tryz.underlying3 hi hz0 n h0 (by rw [hz1]; decide) (by omega) (by rw [hz2]; omega)
    have hcap : n ≤ grownCap w n 0 83 := grownCap_ge ..
    have hmax : grownCap w n 0 83 ≤ maxLen := grownCap_le_maxLen _ _ _ _ (by unfold maxLen; omega)
    generalize grownCap w n 0 83 = cp at *
    go_enter Tryz.func75, Tryz.ntmps75
    go_wp2_with (at_builtin; refine Lib.wpList_append_run _ rfl _ _ _ _ rfl _ _ rfl rfl _ _ hr ?_)
    go_ret
    refine ⟨_, rfl, Lib.hid ?_, Lib.hid ((below_new w _).drew)⟩
    refine ⟨rfl, .inr ⟨w.heap.size, cp, _, rfl, Nat.le_refl _, heap_alloc_new w _, Nat.zero_le _, hmax, ?_, rfl⟩⟩
    rw [Array.size_append, size_zeroCells, size_zeroCells]
    show n * 1 + (cp - n) * 1 = cp * 1
    omega
  · obtain rfl : n = 0 := by omega
    go_enter Tryz.func75, Tryz.ntmps75
    go_wp2
    go_ret
    exact ⟨_, rfl, Lib.hid (World.ownsRow_nil _ _ _ _), Lib.hid (Below.refl _ _)⟩
/-- A row of cells that hold slices of elements. -/
structure Pss (w : World) (D g : Nat) (L : List (Option Addr × Nat × Nat × List El)) : Prop where
  lt : g < w.heap.size
  at_ : ∀ j (h : j < L.length), w.cell? ⟨g, j, none⟩ = some (.slice L[j].1 L[j].2.1 L[j].2.2.1) ∧ Pls w D L[j].1 L[j].2.1 L[j].2.2.2 ∧ Cp L[j].1 L[j].2.1 L[j].2.2.1
theorem Pss.below {w w' : World} {D g : Nat} {L : List (Option Addr × Nat × Nat × List El)} (h : Pss w D g L) (hb : Below w.heap.size w w') : Pss w' D g L :=
  ⟨Nat.lt_of_lt_of_le h.lt hb.size, fun j hj => by
    obtain ⟨h1, h2, h3⟩ := h.at_ j hj
    exact ⟨(hb.cell (p := ⟨g, j, none⟩) h.lt).trans h1, h2.below hb, h3⟩⟩
/-- How long the first k of them are. -/
def totP (L : List (Option Addr × Nat × Nat × List El)) (k : Nat) : Nat := ((L.take k).map (·.2.1)).sum
def allP (L : List (Option Addr × Nat × Nat × List El)) (k : Nat) : List El := (L.take k).flatMap (·.2.2.2)
theorem totP_succ {L : List (Option Addr × Nat × Nat × List El)} {k : Nat} (h : k < L.length) : totP L (k + 1) = totP L k + L[k].2.1 := by
  unfold totP
  rw [List.take_succ_eq_append_getElem h, List.map_append, List.sum_append]; simp
theorem allP_succ {L : List (Option Addr × Nat × Nat × List El)} {k : Nat} (h : k < L.length) : allP L (k + 1) = allP L k ++ L[k].2.2.2 := by
  unfold allP
  rw [List.take_succ_eq_append_getElem h, List.flatMap_append]; simp
theorem totP_le {L : List (Option Addr × Nat × Nat × List El)} {k : Nat} (h : k ≤ L.length) : totP L k ≤ totP L L.length := by
  obtain ⟨d, hd⟩ : ∃ d, L.length = k + d := ⟨L.length - k, by omega⟩
  rw [hd]
  have : ∀ d, k + d ≤ L.length → totP L k ≤ totP L (k + d) := by
    intro d
    induction d with
    | zero => intro _; exact Nat.le_refl _
    | succ d ih =>
      intro h'
      have := ih (by omega)
      rw [show k + (d + 1) = (k + d) + 1 by omega, totP_succ (by omega)]
      omega
  exact this d (by omega)
set_option maxHeartbeats 2000000 in
theorem concat_c (D g n c : Nat) (L : List (Option Addr × Nat × Nat × List El)) (w : World) (hL : L.length = n) (hn : n ≤ 1000) (ht : totP L n ≤ 1000000) (h : Pss w D g L) :
    Calls Tryz.prog 58 #[.slice (some ⟨g, 0, none⟩) n c] w fun e w' =>
      ∃ A' m c', e = .returned (.slice A' m c') ∧ Hid (w'.ownsRow w.heap.size 83 1 (.slice A' m c') m ((allP L n).map pE)) ∧ Hid (Below w.heap.size w w') := by
  have HL := Lib.hid hL
  have HS := Lib.hid h
  have HT : Hid (∀ k, k ≤ n → totP L k ≤ 1000000) := Lib.hid fun k hk => Nat.le_trans (hL ▸ totP_le (hL ▸ hk)) ht
  clear h hL
  go_enter Tryz.func58, Tryz.ntmps58
  go_wp2
  go_loopw [3, 11] (fun sz iv wr => ∃ (k : Nat), k ≤ n ∧ iv = .int .i64 (k : Int) ∧ sz = .int .i64 ((totP L k : Nat) : Int) ∧ wr = w) (fun _ iv _ => n - (intOf iv).toNat)
  case atStart => exact ⟨0, Nat.zero_le _, rfl, rfl, rfl⟩
  case round =>
    obtain ⟨k, hk, rfl, rfl, hw⟩ := hrel
    obtain rfl : w = wr := hw.symm
    by_cases hlt : k < n
    · have hks : k < L.length := by rw [HL.out]; exact hlt
      obtain ⟨c0, -, -⟩ := HS.out.at_ k hks
      have e := totP_succ hks
      have hb := HT.out (k + 1) hlt
      have g1 : IntKind.i64.wrap (((totP L k : Nat) : Int) + ((L[k].2.1 : Nat) : Int)) = ((totP L (k + 1) : Nat) : Int) := by
        rw [show ((totP L k : Nat) : Int) + ((L[k].2.1 : Nat) : Int) = ((totP L (k + 1) : Nat) : Int) by omega]
        exact wrap_small _ (by omega) (by omega)
      have g2 : decide (((totP L (k + 1) : Nat) : Int) < 0) = false := decide_eq_false (by omega)
      clear e hb
      go_wp2
      go_roundw
      case rel => exact ⟨k + 1, by omega, by go_num, rfl, by trivial⟩
      case measure => simp [intOf]; omega
    · obtain rfl : k = n := by omega
      have hb := HT.out k (Nat.le_refl _)
      have HG := Lib.hid (grow_c (totP L k) w hb)
      go_wp2_with (first
        | (go_at_call 75; refine HG.out.mono ?_; rintro e w1 ⟨v, rfl, ho, hb1⟩)
        | fail)
      go_loopw [6, 27] (fun s iv wq => ∃ (j : Nat), j ≤ k ∧ iv = .int .i64 (j : Int) ∧ wq.ownsRow w.heap.size 83 1 s (totP L j) ((allP L j).map pE) ∧ Below w.heap.size w wq) (fun _ iv _ => k - (intOf iv).toNat)
      case atStart => exact ⟨0, Nat.zero_le _, rfl, ho.out, hb1.out⟩
      case round =>
        obtain ⟨j, hj, rfl, ho0, hb0⟩ := hrel
        obtain ⟨A1, c1, rfl⟩ := own_form ho0
        have HO := Lib.hid ho0
        have HB := Lib.hid hb0
        have HSq := Lib.hid (HS.out.below hb0)
        clear ho0 hb0
        by_cases hlj : j < k
        · have hjs : j < L.length := by rw [HL.out]; exact hlj
          obtain ⟨c0, hp0, hcp0⟩ := HSq.out.at_ j hjs
          have HP := Lib.hid hp0
          have HCP := Lib.hid hcp0
          have HE1 := Lib.hid (totP_succ hjs)
          have HE2 := Lib.hid (allP_succ hjs)
          have HBd := Lib.hid (HT.out (j + 1) hlj)
          clear hp0 hcp0
          generalize L[j].1 = X1 at *
          generalize L[j].2.1 = X2 at *
          generalize L[j].2.2.1 = X3 at *
          generalize L[j].2.2.2 = X4 at *
          go_wp2_with (at_builtin; go_must (refine wpList_app_els rfl (.tmp 31) (.tmp 32) _ rfl Tryz.underlying47 w.heap.size (.slice A1 (totP L j) c1) (totP L j) (allP L j) rfl HO.out X1 X2 X3 X4 rfl HP.out HCP.out (by have := HBd.out; have := HE1.out; omega) HB.out HB.out.size ?_))
          intro v' w' p1 p2
          go_wp2
          go_roundw
          case rel => exact ⟨j + 1, by omega, by go_num, by rw [HE1.out, HE2.out, List.map_append]; exact p1.out, p2.out⟩
          case measure => simp [intOf]; omega
        · obtain rfl : j = k := by omega
          go_wp2
          go_ret
          exact ⟨_, _, _, rfl, HO, HB⟩
end Go.Proofs.YtbjelkejifgnfaaGreatDoor
