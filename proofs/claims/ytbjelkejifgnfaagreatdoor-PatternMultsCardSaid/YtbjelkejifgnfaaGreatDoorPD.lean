/-
  PD: elements in memory, the program's and the document's.
-/
import Derived.Test.YtbjelkejifgnfaaGreatDoorPA
set_option maxRecDepth 100000
namespace Go.Proofs.YtbjelkejifgnfaaGreatDoor
open Go.RowKit
/- The document's elements. -/
/-- A token's cells. -/
def elR (t : El) : List Value := [.int .i32 t.1.1, .bool t.1.2.1, .int .i64 t.1.2.2, .bool t.2]
def elsR (ts : List El) : List Value := ts.flatMap elR
theorem elsR_cons (t : El) (ts : List El) : elsR (t :: ts) = elR t ++ elsR ts := rfl
theorem elsR_length (ts : List El) : (elsR ts).length = ts.length * 4 := by
  induction ts with
  | nil => rfl
  | cons t ts ih => rw [elsR_cons, List.length_append, ih]; simp only [elR, List.length_cons, List.length_nil]; omega
theorem elsR_append (ts us : List El) : elsR (ts ++ us) = elsR ts ++ elsR us := by simp [elsR]
theorem elsR_one (t : El) : elsR [t] = elR t := by simp [elsR]
theorem elsR_cell (ts : List El) : ∀ u ∈ elsR ts, u.oneCell' = true := by
  intro u hu
  obtain ⟨t, _, ht⟩ := List.mem_flatMap.1 hu
  simp only [elR, List.mem_cons, List.not_mem_nil, or_false] at ht
  rcases ht with rfl | rfl | rfl | rfl <;> rfl
/-- The k-th token. -/
def el4 (ts : List El) (k : Nat) : El := ts.getD k ((0, false, 0), false)
theorem el4_eq {ts : List El} {k : Nat} (h : k < ts.length) : el4 ts k = ts[k] := by simp [el4, List.getD, List.getElem?_eq_getElem h]
theorem elsR_get (ts : List El) : ∀ (k j : Nat), k < ts.length → j < 4 → (elsR ts)[k * 4 + j]? = (elR (el4 ts k))[j]? := by
  induction ts with
  | nil => intro k j h _; simp at h
  | cons t ts ih =>
    intro k j h hj
    cases k with
    | zero =>
      rw [elsR_cons, List.getElem?_append_left (by show _ < 4; omega)]
      simp [el4]
    | succ k =>
      rw [elsR_cons, List.getElem?_append_right (by show 4 ≤ _; omega)]
      rw [show (k + 1) * 4 + j - (elR t).length = k * 4 + j by show _ - 4 = _; omega, ih k j (by simpa using h) hj]
      simp [el4]
/-- A slice that reads as the tokens ts. -/
def Rls (w : World) (A : Option Addr) (n : Nat) (ts : List El) : Prop := Reads w w.heap.size 4 A n (elsR ts) ∧ n ≤ 36000000000000 ∧ ∀ t ∈ ts, R32 t.1
section
variable {w w' : World} {n : Nat} {A : Option Addr} {ts : List El}
theorem Rls.len (h : Rls w A n ts) : ts.length = n := by have := h.1.1; rw [elsR_length] at this; omega
theorem Rls.below (h : Rls w A n ts) (hb : Below w.heap.size w w') : Rls w' A n ts := ⟨(h.1.below hb).more hb.size, h.2⟩
theorem Rls.at_ {k : Nat} (h : Rls w A n ts) (hk : k < n) : ∃ ad, A = some ad ∧ ad.block < w.heap.size ∧ w.cell? (ad.add (k * 4)) = some (.int .i32 (el4 ts k).1.1) ∧ w.cell? ⟨(ad.add (k * 4)).block, (ad.add (k * 4)).off + 1, none⟩ = some (.bool (el4 ts k).1.2.1) ∧
    w.cell? ⟨(ad.add (k * 4)).block, (ad.add (k * 4)).off + 2, none⟩ = some (.int .i64 (el4 ts k).1.2.2) ∧ w.cell? ⟨(ad.add (k * 4)).block, (ad.add (k * 4)).off + 3, none⟩ = some (.bool (el4 ts k).2) ∧ R32 (el4 ts k).1 := by
  obtain ⟨ad, e, hb, hc⟩ := h.1.2 (by omega)
  have hl : k < ts.length := by rw [h.len]; exact hk
  have f1 := hc (k * 4 + 1) (.bool (el4 ts k).1.2.1) (by rw [elsR_get ts k 1 hl (by omega)]; rfl)
  have f2 := hc (k * 4 + 2) (.int .i64 (el4 ts k).1.2.2) (by rw [elsR_get ts k 2 hl (by omega)]; rfl)
  have f3 := hc (k * 4 + 3) (.bool (el4 ts k).2) (by rw [elsR_get ts k 3 hl (by omega)]; rfl)
  rw [← add_of_add] at f1 f2 f3
  refine ⟨ad, e, hb, hc (k * 4) _ ?_, f1, f2, f3, ?_⟩
  · have := elsR_get ts k 0 hl (by omega); rw [Nat.add_zero] at this; rw [this]; rfl
  · rw [el4_eq hl]; exact h.2.2 _ (List.getElem_mem hl)
end
theorem rls_nil (w : World) : Rls w none 0 [] := ⟨Reads.none_, by omega, by simp⟩
theorem elm_info : (Tryz.prog.info? 64).map (fun i => (i.zero, i.size, i.bytes)) = some (some (.agg #[.int .i32 0, .bool false, .int .i64 0, .bool false]), 4, 24) := by kernel_rfl
/-- A slice in new memory (from block base on), that holds the tokens ts. -/
def OwnR4 (w : World) (base : Nat) (A : Option Addr) (m c : Nat) (ts : List El) : Prop :=
  w.ownsRow base 64 4 (.slice A m c) m (elsR ts) ∧ m ≤ 10000000000 ∧ ∀ t ∈ ts, R32 t.1
section
variable {w w' : World} {base m c : Nat} {A : Option Addr} {ts : List El}
theorem OwnR4.len (h : OwnR4 w base A m c ts) : ts.length = m := by have := h.1.1; rw [elsR_length] at this; omega
theorem OwnR4.tks (h : OwnR4 w base A m c ts) : Rls w A m ts := ⟨Reads.of_own h.1, Nat.le_trans h.2.1 (by omega), h.2.2⟩
theorem OwnR4.keep {B : Nat} (h : OwnR4 w base A m c ts) (hb : Below B w w') (hB : B = w.heap.size) : OwnR4 w' base A m c ts := by
  subst hB
  refine ⟨h.1.kept (row := none) ⟨hb.os, hb.tape, hb.output, hb.size, fun k hk _ => hb.block k hk⟩ ?_, h.2⟩
  cases hv : (Value.slice A m c).ownBlock <;> simp
theorem OwnR4.weaken {base' : Nat} (h : OwnR4 w base A m c ts) (hb : base' ≤ base) : OwnR4 w base' A m c ts := ⟨own_weaken h.1 hb, h.2⟩
end
theorem ownR4_nil (w : World) (base : Nat) : OwnR4 w base none 0 0 [] := ⟨World.ownsRow_nil _ _ _ _, by omega, by simp⟩
/-- 'list = append(list, t)' of one token. -/
theorem wpList_app_el4 {W w0 : World} {ops : Array Oper} {rest : List Oper} {o : Oper} {a : Act} {Q : Exit → Act → World → Prop} (hgd : o.guard = none) (s x : Operand) (t : TypeId)
    (ho : o.op = .call { callee := .builtin .append, args := #[s, x], argTypes := #[t, t] }) (ht : Tryz.prog.underlying t = some (.slice 64))
    (base : Nat) (v : Value) (k : Nat) (ts : List El) (hs : a.eval s = v) (hown : W.ownsRow base 64 4 v k (elsR ts)) (u : El)
    (hx : a.eval x = .slice (some ⟨W.heap.size, 0, none⟩) 1 1) (r : Int) (q : Bool) (p : Int) (pd : Bool) (hu : u = ((r, q, p), pd)) (hk : k ≤ 1000000000000) (hb : Below base w0 W) (hbase : base ≤ W.heap.size)
    (h : ∀ v' w', Hid (w'.ownsRow base 64 4 v' (k + 1) (elsR (ts ++ [u]))) → Hid (Below base w0 w') → Hid (∀ k, k < W.heap.size → v.ownBlock ≠ some k → w'.heap[k]? = W.heap[k]?) → wpList Tryz.prog ops Q rest (a.put o.dst v') w') :
    wpList Tryz.prog ops Q (o :: rest) a (W.alloc (.cells #[.int .i32 r, .bool q, .int .i64 p, .bool pd] 64)) := by
  obtain ⟨i0, hi, hz0, hz1, hz2⟩ := info_parts elm_info
  subst hu
  refine wpList_append_own _ hgd s x t ho base 64 i0 _ 4 24 ht hi hz0 hz1 hz2 rfl (by decide) v k _ hs (hown.alloc _) ⟨W.heap.size, 0, none⟩ 1 1 [.int .i32 r, .bool q, .int .i64 p, .bool pd] hx rfl (cells_row W _ _) ?_ ?_ ?_ ?_ ?_
  · intro v hv
    simp only [List.mem_cons, List.not_mem_nil, or_false] at hv
    rcases hv with rfl | rfl | rfl | rfl <;> rfl
  · unfold maxLen; omega
  · omega
  · simp; omega
  · intro v' w' h1 h2 _
    refine h v' w' ?_ ?_ ?_
    · rw [elsR_append, elsR_one]; exact h1
    · refine (hb.alloc hbase _).grown h2 (by simp; omega) fun j hj => ?_
      exact (hown.lt j hj).1
    · intro k hk hne
      rw [h2.block k (by simp; omega) (fun e => hne e.symm)]
      show (W.heap.push _)[k]? = _
      rw [Array.getElem?_push_lt hk, Array.getElem?_eq_getElem hk]
/-- A slice's length and capacity; nil has none. -/
def Cp (A : Option Addr) (n c : Nat) : Prop := n ≤ c ∧ (A = none → c = 0)
theorem Cp.some {a : Addr} {n c : Nat} (h : n ≤ c) : Cp (some a) n c := ⟨h, fun e => by cases e⟩
theorem Cp.nil : Cp none 0 0 := ⟨Nat.le_refl _, fun _ => rfl⟩
/- The program's elements: one cell each. -/
def pE (e : El) : Value := if e.2 then .iface 112 (.agg #[.int .i32 e.1.1, .int .i64 e.1.2.2]) else .iface 110 (.agg #[.int .i32 e.1.1, .bool e.1.2.1, .int .i64 e.1.2.2])
theorem pE_p (r a : Int) (q : Bool) : pE ((r, q, a), true) = .iface 112 (.agg #[.int .i32 r, .int .i64 a]) := rfl
theorem pE_s (r a : Int) (q : Bool) : pE ((r, q, a), false) = .iface 110 (.agg #[.int .i32 r, .bool q, .int .i64 a]) := rfl
theorem pE_form (e : El) : ∃ T y, pE e = .iface T y := by unfold pE; split <;> exact ⟨_, _, rfl⟩
/-- A slice, below block D, that reads as the elements es. -/
def Pls (w : World) (D : Nat) (A : Option Addr) (n : Nat) (es : List El) : Prop := Reads w D 1 A n (es.map pE) ∧ D ≤ w.heap.size ∧ n ≤ 36000000000000 ∧ ∀ t ∈ es, isZ t.1.1 = true
section
variable {w w' : World} {n D : Nat} {A : Option Addr} {es : List El}
theorem Pls.z (h : Pls w D A n es) : ∀ t ∈ es, isZ t.1.1 = true := h.2.2.2
theorem Pls.len (h : Pls w D A n es) : es.length = n := by have := h.1.1; simpa using this
theorem Pls.belowD {B : Nat} (h : Pls w D A n es) (hb : Below B w w') (hB : D ≤ B) : Pls w' D A n es := ⟨h.1.below (hb.mono hB), Nat.le_trans h.2.1 hb.size, h.2.2⟩
theorem Pls.below (h : Pls w D A n es) (hb : Below w.heap.size w w') : Pls w' D A n es := h.belowD hb h.2.1
theorem Pls.more {D' : Nat} (h : Pls w D A n es) (hD : D ≤ D') (hw : D' ≤ w.heap.size) : Pls w D' A n es := ⟨h.1.more hD, hw, h.2.2⟩
theorem Pls.nil (h : Pls w D A n es) (A' : Option Addr) : Pls w D A' 0 [] := ⟨⟨rfl, fun h => absurd h (by omega)⟩, h.2.1, by omega, by simp⟩
theorem Pls.at_ {k : Nat} (h : Pls w D A n es) (hk : k < n) : ∃ ad, A = some ad ∧ ad.block < w.heap.size ∧ w.cell? (ad.add k) = some (pE (el4 es k)) ∧ isZ (el4 es k).1.1 = true := by
  obtain ⟨ad, e, hb, hc⟩ := h.1.2 (by omega)
  have hl : k < es.length := by rw [h.len]; exact hk
  refine ⟨ad, e, Nat.lt_of_lt_of_le hb h.2.1, hc k _ ?_, ?_⟩
  · rw [List.getElem?_map, List.getElem?_eq_getElem hl, el4_eq hl]; rfl
  · rw [el4_eq hl]; exact h.z _ (List.getElem_mem hl)
theorem Pls.take (h : Pls w D A n es) {k : Nat} (hk : k ≤ n) : Pls w D A k (es.take k) := by
  refine ⟨⟨by rw [List.length_map, List.length_take, h.len]; omega, fun h0 => ?_⟩, h.2.1, Nat.le_trans hk h.2.2.1, fun t ht => h.z t (List.mem_of_mem_take ht)⟩
  obtain ⟨ad, e, hb, hc⟩ := h.1.2 (by omega)
  refine ⟨ad, e, hb, fun j u hu => hc j u ?_⟩
  have hj : j < k := by
    have := (List.getElem?_eq_some_iff.1 hu).1
    rw [List.length_map, List.length_take] at this
    omega
  rw [List.map_take, List.getElem?_take_of_lt hj] at hu
  exact hu
theorem Pls.drop {ad : Addr} (h : Pls w D (some ad) n es) {k : Nat} (hk : k < n) : Pls w D (some (ad.add k)) (n - k) (es.drop k) := by
  obtain ⟨ad', e, hb, hc⟩ := h.1.2 (by omega)
  obtain rfl := Option.some.inj e
  refine ⟨⟨by rw [List.length_map, List.length_drop, h.len]; omega, fun _ => ⟨ad.add k, rfl, by rw [block_of_add]; exact hb, fun j u hu => ?_⟩⟩, h.2.1, by have := h.2.2.1; omega, fun t ht => h.z t (List.mem_of_mem_drop ht)⟩
  rw [List.map_drop, List.getElem?_drop] at hu
  have := hc (k + j) u hu
  rw [add_of_add]
  exact this
end
theorem pelm_info : (Tryz.prog.info? 83).map (fun i => (i.zero, i.size, i.bytes)) = some (some .nilIface, 1, 16) := by kernel_rfl
/-- A slice in new memory (from block base on), that holds the elements es. -/
def OwnE (w : World) (base : Nat) (A : Option Addr) (m c : Nat) (es : List El) : Prop :=
  w.ownsRow base 83 1 (.slice A m c) m (es.map pE) ∧ m ≤ 10000000000 ∧ ∀ t ∈ es, isZ t.1.1 = true
section
variable {w w' : World} {base m c : Nat} {A : Option Addr} {es : List El}
theorem OwnE.len (h : OwnE w base A m c es) : es.length = m := by have := h.1.1; simpa using this
theorem OwnE.pls (h : OwnE w base A m c es) : Pls w w.heap.size A m es := ⟨Reads.of_own h.1, Nat.le_refl _, Nat.le_trans h.2.1 (by omega), h.2.2⟩
theorem OwnE.keep {B : Nat} (h : OwnE w base A m c es) (hb : Below B w w') (hB : B = w.heap.size) : OwnE w' base A m c es := by
  subst hB
  refine ⟨h.1.kept (row := none) ⟨hb.os, hb.tape, hb.output, hb.size, fun k hk _ => hb.block k hk⟩ ?_, h.2⟩
  cases hv : (Value.slice A m c).ownBlock <;> simp
end
theorem ownE_nil (w : World) (base : Nat) : OwnE w base none 0 0 [] := ⟨World.ownsRow_nil _ _ _ _, by omega, by simp⟩
/-- 'list = append(list, one)' of one piece. -/
theorem wpList_app_el {W w0 : World} {ops : Array Oper} {rest : List Oper} {o : Oper} {a : Act} {Q : Exit → Act → World → Prop} (hgd : o.guard = none) (s x : Operand) (t : TypeId)
    (ho : o.op = .call { callee := .builtin .append, args := #[s, x], argTypes := #[t, t] }) (ht : Tryz.prog.underlying t = some (.slice 83))
    (base : Nat) (v : Value) (k : Nat) (ts : List El) (hs : a.eval s = v) (hown : W.ownsRow base 83 1 v k (ts.map pE)) (u : El)
    (hx : a.eval x = .slice (some ⟨W.heap.size, 0, none⟩) 1 1) (T : TypeId) (y : Value) (hu : pE u = .iface T y) (hk : k ≤ 1000000000000) (hb : Below base w0 W) (hbase : base ≤ W.heap.size)
    (h : ∀ v' w', Hid (w'.ownsRow base 83 1 v' (k + 1) ((ts ++ [u]).map pE)) → Hid (Below base w0 w') → Hid (∀ k, k < W.heap.size → v.ownBlock ≠ some k → w'.heap[k]? = W.heap[k]?) → wpList Tryz.prog ops Q rest (a.put o.dst v') w') :
    wpList Tryz.prog ops Q (o :: rest) a (W.alloc (.cells #[.iface T y] 83)) := by
  obtain ⟨i0, hi, hz0, hz1, hz2⟩ := info_parts pelm_info
  refine wpList_append_own _ hgd s x t ho base 83 i0 .nilIface 1 16 ht hi hz0 hz1 hz2 rfl (by decide) v k _ hs (hown.alloc _) ⟨W.heap.size, 0, none⟩ 1 1 [.iface T y] hx rfl (cells_row W _ _) ?_ ?_ ?_ ?_ ?_
  · intro v hv
    simp only [List.mem_cons, List.not_mem_nil, or_false] at hv
    subst hv; rfl
  · unfold maxLen; omega
  · omega
  · simp; omega
  · intro v' w' h1 h2 _
    refine h v' w' ?_ ?_ ?_
    · rw [List.map_append, List.map_cons, List.map_nil, hu]; exact h1
    · refine (hb.alloc hbase _).grown h2 (by simp; omega) fun j hj => ?_
      exact (hown.lt j hj).1
    · intro k hk hne
      rw [h2.block k (by simp; omega) (fun e => hne e.symm)]
      show (W.heap.push _)[k]? = _
      rw [Array.getElem?_push_lt hk, Array.getElem?_eq_getElem hk]
end Go.Proofs.YtbjelkejifgnfaaGreatDoor
