/-
  PS: items appended; slices.Clone.
-/
import Derived.Test.YtbjelkejifgnfaaGreatDoorPO
set_option maxRecDepth 100000
namespace Go.Proofs.YtbjelkejifgnfaaGreatDoor
open Go.RowKit
/-- 'append(list, is...)' of a slice of items, which may be nil. -/
theorem wpList_app_its {W w0 : World} {ops : Array Oper} {rest : List Oper} {o : Oper} {a : Act} {Q : Exit → Act → World → Prop} (hgd : o.guard = none) (s x : Operand) (t : TypeId)
    (ho : o.op = .call { callee := .builtin .append, args := #[s, x], argTypes := #[t, t] }) (ht : Tryz.prog.underlying t = some (.slice 54))
    (base : Nat) (v : Value) (k : Nat) (xs : List Itm) (hs : a.eval s = v) (hown : W.ownsRow base 54 2 v k (itsV xs)) {lo hi : Nat} (A : Option Addr) (m c : Nat) (ys : List Itm)
    (hx : a.eval x = .slice A m c) (hr : Btw W lo hi A m c ys) (hk : k + m ≤ 1000000000000) (hb : Below base w0 W) (hbase : base ≤ W.heap.size)
    (h : ∀ v' w', Hid (w'.ownsRow base 54 2 v' (k + m) (itsV (xs ++ ys))) → Hid (Below base w0 w') → wpList Tryz.prog ops Q rest (a.put o.dst v') w') :
    wpList Tryz.prog ops Q (o :: rest) a W := by
  obtain ⟨i0, hi, hz0, hz1, hz2⟩ := info_parts itm_info
  have hl := hr.num
  cases A with
  | none =>
    obtain rfl : c = 0 := hr.cp.2 rfl
    obtain rfl : m = 0 := by have := hr.cp.1; omega
    have : ys = [] := List.eq_nil_of_length_eq_zero hl
    subst this
    refine wpList_append_own_none hgd s x t ho base 54 i0 2 ht hi v k _ hs hown hx ?_
    refine h v W ?_ (Lib.hid hb)
    rw [List.append_nil]; exact Lib.hid hown
  | some ad =>
    refine wpList_append_own _ hgd s x t ho base 54 i0 _ 2 16 ht hi hz0 hz1 hz2 rfl (by decide) v k _ hs hown ad m c (itsV ys) hx hr.len ?_ ?_ ?_ ?_ hbase ?_
    · intro j u hu
      have hj : 0 < m := by
        have := (List.getElem?_eq_some_iff.1 hu).1
        rw [hr.len] at this; omega
      obtain ⟨ad', e, _, _, hc⟩ := hr.rd hj
      obtain rfl := Option.some.inj e
      exact hc j u hu
    · intro u hu
      obtain ⟨t, _, ht⟩ := List.mem_flatMap.1 hu
      simp only [itmV, List.mem_cons, List.not_mem_nil, or_false] at ht
      rcases ht with rfl | rfl <;> rfl
    · unfold maxLen; omega
    · omega
    · intro v' w' h1 h2 _
      refine h v' w' ?_ ?_
      · rw [itsV_append]; exact Lib.hid h1
      · exact Lib.hid (hb.grown h2 hbase fun j hj => (hown.lt j hj).1)
theorem Btw.nil (w : World) (lo hi : Nat) (h : hi ≤ w.heap.size) : Btw w lo hi none 0 0 [] := ⟨Cp.nil, h, rfl, fun h => absurd h (by omega), by omega, by simp⟩
theorem nil_no (W : World) (ad : Addr) (n c : Nat) : (binOp .eql 23 (.slice (some ad) n c) (.slice none 0 0)).run Tryz.prog W = .ok (.bool false) W := by kernel_rfl
theorem nil_yes (W : World) : (binOp .eql 23 (.slice none 0 0) (.slice none 0 0)).run Tryz.prog W = .ok (.bool true) W := by kernel_rfl
attribute [local go_sem] nil_no nil_yes in
set_option maxHeartbeats 1000000 in
theorem clone_c {lo hi : Nat} (A : Option Addr) (n c : Nat) (is : List Itm) (w : World) (h : Btw w lo hi A n c is) (hn : n ≤ 1000) :
    Calls Tryz.prog 23 #[.slice A n c] w fun e w' => ∃ A' n' c', e = .returned (.slice A' n' c') ∧ Hid (Btw w' w.heap.size w'.heap.size A' n' c' is) ∧ Hid (Below w.heap.size w w') := by
  have H := Lib.hid h
  cases A with
  | none =>
    obtain rfl : c = 0 := h.cp.2 rfl
    obtain rfl : n = 0 := by have := h.cp.1; omega
    have hl : is = [] := List.eq_nil_of_length_eq_zero h.num
    subst hl
    clear h
    go_enter Tryz.func23, Tryz.ntmps23
    go_wp2
    go_ret
    exact ⟨_, _, _, rfl, Lib.hid (Btw.nil _ _ _ (Nat.le_refl _)), Lib.hid (Below.refl _ _)⟩
  | some ad =>
    clear h
    have HR := Lib.hid (H.out.below (below_new w (.cells #[] 54)) H.out.hi_)
    have HO : Hid ((w.alloc (.cells #[] 54)).ownsRow w.heap.size 54 2 (.slice (some ⟨w.heap.size, 0, none⟩) 0 0) 0 (itsV [])) := Lib.hid ⟨rfl, .inr ⟨w.heap.size, 0, _, rfl, Nat.le_refl _, heap_alloc_new w _, Nat.le_refl _, Nat.zero_le _, rfl, rfl⟩⟩
    go_enter Tryz.func23, Tryz.ntmps23
    go_wp2_with (at_builtin; go_must (refine wpList_app_its rfl (.tmp 5) (.tmp 6) _ rfl Tryz.underlying23 w.heap.size (.slice (some ⟨w.heap.size, 0, none⟩) 0 0) 0 [] rfl HO.out (some ad) n c is rfl HR.out (by omega) (below_new w _) (by simp) ?_))
    intro v' w' p1 p2
    obtain ⟨A4, c4, rfl⟩ := own_form p1.out
    go_wp2
    go_ret
    refine ⟨_, _, _, rfl, Lib.hid (Btw.of_own ⟨p1.out, by omega, H.out.ri⟩), p2⟩
end Go.Proofs.YtbjelkejifgnfaaGreatDoor
