/-
  TB: tokens and pieces in memory.
-/
import Derived.Laws.AppendOwnNone
import Derived.Test.YtogipbgfnjbakaaDoorTA
set_option maxRecDepth 100000
namespace Go.Proofs.YtogipbgfnjbakaaDoor
open Go.RowKit
/-- A token's cells. -/
def tokV (t : Tok) : List Value := [.int .i32 t.1, .bool t.2.1, .int .i64 t.2.2]
def toksV (ts : List Tok) : List Value := ts.flatMap tokV
theorem toksV_cons (t : Tok) (ts : List Tok) : toksV (t :: ts) = tokV t ++ toksV ts := rfl
theorem toksV_length (ts : List Tok) : (toksV ts).length = ts.length * 3 := by
  induction ts with
  | nil => rfl
  | cons t ts ih => rw [toksV_cons, List.length_append, ih]; simp only [tokV, List.length_cons, List.length_nil]; omega
theorem toksV_append (ts us : List Tok) : toksV (ts ++ us) = toksV ts ++ toksV us := by simp [toksV]
theorem toksV_one (t : Tok) : toksV [t] = tokV t := by simp [toksV]
theorem toksV_cell (ts : List Tok) : ∀ u ∈ toksV ts, u.oneCell' = true := by
  intro u hu
  obtain ⟨t, _, ht⟩ := List.mem_flatMap.1 hu
  simp only [tokV, List.mem_cons, List.not_mem_nil, or_false] at ht
  rcases ht with rfl | rfl | rfl <;> rfl
/-- The k-th token. -/
def tk (ts : List Tok) (k : Nat) : Tok := ts.getD k (0, false, 0)
theorem tk_eq {ts : List Tok} {k : Nat} (h : k < ts.length) : tk ts k = ts[k] := by simp [tk, List.getD, List.getElem?_eq_getElem h]
theorem toksV_get (ts : List Tok) : ∀ (k j : Nat), k < ts.length → j < 3 → (toksV ts)[k * 3 + j]? = (tokV (tk ts k))[j]? := by
  induction ts with
  | nil => intro k j h _; simp at h
  | cons t ts ih =>
    intro k j h hj
    cases k with
    | zero =>
      rw [toksV_cons, List.getElem?_append_left (by show _ < 3; omega)]
      simp [tk]
    | succ k =>
      rw [toksV_cons, List.getElem?_append_right (by show 3 ≤ _; omega)]
      rw [show (k + 1) * 3 + j - (tokV t).length = k * 3 + j by show _ - 3 = _; omega, ih k j (by simpa using h) hj]
      simp [tk]
def R32 (t : Tok) : Prop := -2147483648 ≤ t.1 ∧ t.1 ≤ 2147483647
theorem r32_may {t : Tok} (h : mayT t = true) : R32 t := by
  simp only [mayT, Bool.and_eq_true] at h
  have := isZ_iff.1 h.1
  exact ⟨by omega, by omega⟩
/-- A slice that reads as the tokens ts. -/
def Tks (w : World) (A : Option Addr) (n : Nat) (ts : List Tok) : Prop := Reads w w.heap.size 3 A n (toksV ts) ∧ n ≤ 36000000000000 ∧ ∀ t ∈ ts, R32 t
section
variable {w w' : World} {n : Nat} {A : Option Addr} {ts : List Tok}
theorem Tks.len (h : Tks w A n ts) : ts.length = n := by have := h.1.1; rw [toksV_length] at this; omega
theorem Tks.below (h : Tks w A n ts) (hb : Below w.heap.size w w') : Tks w' A n ts := ⟨(h.1.below hb).more hb.size, h.2⟩
theorem Tks.at_ {k : Nat} (h : Tks w A n ts) (hk : k < n) : ∃ ad, A = some ad ∧ ad.block < w.heap.size ∧ w.cell? (ad.add (k * 3)) = some (.int .i32 (tk ts k).1) ∧ w.cell? ⟨(ad.add (k * 3)).block, (ad.add (k * 3)).off + 1, none⟩ = some (.bool (tk ts k).2.1) ∧
    w.cell? ⟨(ad.add (k * 3)).block, (ad.add (k * 3)).off + 2, none⟩ = some (.int .i64 (tk ts k).2.2) ∧ R32 (tk ts k) := by
  obtain ⟨ad, e, hb, hc⟩ := h.1.2 (by omega)
  have hl : k < ts.length := by rw [h.len]; exact hk
  have f1 := hc (k * 3 + 1) (.bool (tk ts k).2.1) (by rw [toksV_get ts k 1 hl (by omega)]; rfl)
  have f2 := hc (k * 3 + 2) (.int .i64 (tk ts k).2.2) (by rw [toksV_get ts k 2 hl (by omega)]; rfl)
  rw [← add_of_add] at f1 f2
  refine ⟨ad, e, hb, hc (k * 3) _ ?_, f1, f2, ?_⟩
  · have := toksV_get ts k 0 hl (by omega); rw [Nat.add_zero] at this; rw [this]; rfl
  · rw [tk_eq hl]; exact h.2.2 _ (List.getElem_mem hl)
end
theorem tks_nil (w : World) : Tks w none 0 [] := ⟨Reads.none_, by omega, by simp⟩
section
variable {w w' : World} {base m c : Nat} {A : Option Addr} {ts : List Tok}
end
theorem own_keptN {w w' : World} {base B : Nat} {e : TypeId} {size n : Nat} {v : Value} {xs : List Value} (h : w.ownsRow base e size v n xs) (hb : Below B w w') (hB : B = w.heap.size) : w'.ownsRow base e size v n xs := by
  subst hB
  refine h.kept (row := none) ⟨hb.os, hb.tape, hb.output, hb.size, fun k hk _ => hb.block k hk⟩ ?_
  cases v.ownBlock <;> simp
theorem cells_row (W : World) (xs : List Value) (e : TypeId) : ∀ j u, xs[j]? = some u → (W.alloc (.cells xs.toArray e)).cell? ((⟨W.heap.size, 0, none⟩ : Addr).add j) = some u :=
  (World.ownsRow_lit (base := 0) (e := e) (size := xs.length) W xs.toArray 1 (Nat.zero_le _) (by unfold maxLen; omega) (by simp)).cells rfl
/-- 'out = append(out, rs...)' of a row of runes of the call's own, which may be nil. -/
theorem wpList_app_runes {W w0 : World} {ops : Array Oper} {rest : List Oper} {o : Oper} {a : Act} {Q : Exit → Act → World → Prop} (hgd : o.guard = none) (s x : Operand) (t : TypeId)
    (ho : o.op = .call { callee := .builtin .append, args := #[s, x], argTypes := #[t, t] }) (ht : Tryd.prog.underlying t = some (.slice 21))
    (base : Nat) (v : Value) (k : Nat) (xs : List Int) (hs : a.eval s = v) (hown : W.ownsRow base 21 1 v k (i32s xs)) (V : Value) (m base' : Nat) (ys : List Int)
    (hx : a.eval x = V) (hr : W.ownsRow base' 21 1 V m (i32s ys)) (hk : k + m ≤ 1000000000000) (hb : Below base w0 W) (hbase : base ≤ W.heap.size)
    (h : ∀ v' w', Hid (w'.ownsRow base 21 1 v' (k + m) (i32s (xs ++ ys))) → Hid (Below base w0 w') → Hid (∀ k, k < W.heap.size → v.ownBlock ≠ some k → w'.heap[k]? = W.heap[k]?) → wpList Tryd.prog ops Q rest (a.put o.dst v') w') :
    wpList Tryd.prog ops Q (o :: rest) a W := by
  obtain ⟨i0, hi, hz0, hz1, hz2⟩ := info_parts i32_info
  have hl : ys.length = m := by have := hr.1; simpa [i32s_length] using this
  rcases hr.2 with ⟨rfl, rfl⟩ | ⟨g, cap, cur, rfl, _, hg, hnc, hcm, hcs, htake⟩
  · have : ys = [] := List.eq_nil_of_length_eq_zero hl
    subst this
    refine wpList_append_own_none hgd s x t ho base 21 i0 1 ht hi v k _ hs hown hx ?_
    refine h v W ?_ hb fun _ _ _ => rfl
    rw [List.append_nil]; exact hown
  · refine wpList_append_own _ hgd s x t ho base 21 i0 (.int .i32 0) 1 4 ht hi hz0 hz1 hz2 rfl (by decide) v k _ hs hown ⟨g, 0, none⟩ m cap (i32s ys) hx (by rw [i32s_length, hl, Nat.mul_one]) (hr.cells rfl) (i32s_one _) ?_ ?_ hbase ?_
    · unfold maxLen; omega
    · omega
    · intro v' w' h1 h2 _
      refine h v' w' ?_ ?_ ?_
      · rw [i32s_append]; exact h1
      · exact hb.grown h2 hbase fun j hj => (hown.lt j hj).1
      · exact fun k hk hne => h2.block k hk (fun e => hne e.symm)
/-- A row of one rune, written out. -/
theorem own_lit_i32 (W : World) (base : Nat) (hb : base ≤ W.heap.size) (r : Int) : (W.alloc (.cells #[.int .i32 r] 21)).ownsRow base 21 1 (.slice (some ⟨W.heap.size, 0, none⟩) 1 1) 1 (i32s [r]) :=
  World.ownsRow_lit W _ 1 hb (by unfold maxLen; omega) rfl
end Go.Proofs.YtogipbgfnjbakaaDoor
