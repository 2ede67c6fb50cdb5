/-
  Appending limbs to a row of the call's own; a row of the call's own that is cut, and written.
-/
import Derived.Test.YtpbkndmciopnjaaDoorBase
import Derived.StillTailTactics
namespace Go.Proofs.YtpbkndmciopnjaaDoor
open Go.RowKit
theorem run_append_of_nil {P : Program} (w : World) (base : Nat) (t ty e : TypeId) (i : TypeInfo) (size : Nat) (ht : P.underlying t = some (.slice e)) (hi : P.info? e = some i)
    (v : Value) (n : Nat) (xs : List Value) (hown : w.ownsRow base e size v n xs) (c : Nat) : (Builtin.append_ #[t, t] ty #[v, .slice none 0 c]).run P w = .ok v w := by
  rcases hown.2 with ⟨rfl, rfl⟩ | ⟨g, cap, cur, rfl, _, _, hnc, _⟩
  · simp [Builtin.append_, run_underlying ht, sizeOf, typeInfo, hi, Builtin.lenOf, Builtin.firstCells]
  · simp [Builtin.append_, run_underlying ht, sizeOf, typeInfo, hi, Builtin.lenOf, Builtin.firstCells, hnc, storeCells]
/-- 'append(out, xs...)', out nil or the call's own, xs any slice of limbs. -/
theorem wpList_app_limbs {W w0 : World} {ops : Array Oper} {rest : List Oper} {o : Oper} {a : Act} {Q : Exit → Act → World → Prop} (hgd : o.guard = none) (s x : Operand) (t : TypeId)
    (ho : o.op = .call { callee := .builtin .append, args := #[s, x], argTypes := #[t, t] }) (ht : Tryd.prog.underlying t = some (.slice 39))
    (base : Nat) (v : Value) (k : Nat) (xs : List Nat) (hs : a.eval s = v) (hown : W.ownsRow base 39 1 v k (u32s xs)) (A : Option Addr) (m c : Nat) (ys : List Nat)
    (hx : a.eval x = .slice A m c) (hr : Limbs W A m ys) (hk : k + m ≤ 10000000000) (hb : Below base w0 W) (hbase : base ≤ W.heap.size)
    (h : ∀ v' w', Hid (w'.ownsRow base 39 1 v' (k + m) (u32s (xs ++ ys))) → Hid (Below base w0 w') → wpList Tryd.prog ops Q rest (a.put o.dst v') w') :
    wpList Tryd.prog ops Q (o :: rest) a W := by
  obtain ⟨i0, hi, hz0, hz1, hz2⟩ := info_parts u32_info
  rcases A with _ | ad
  · have hm : m = 0 := by
      rcases Nat.eq_zero_or_pos m with h0 | h0
      · exact h0
      · obtain ⟨ad, hh, _⟩ := hr.1.2 h0
        cases hh
    subst hm
    have hn : ys = [] := List.eq_nil_of_length_eq_zero hr.len
    subst hn
    have hrun := run_append_of_nil (P := Tryd.prog) W base t o.type 39 i0 1 ht hi v k _ hown c
    refine wpList_plain hgd fun K hK => ?_
    unfold Oper.wp execOp
    simp only [ho, resolve, invoke, builtin, Sem.run_bind, Sem.run_pure, Result.andThen_ok, List.map_toArray, List.map_cons, List.map_nil, hs, hx, hrun]
    exact hK _ _ (h v W (by rw [List.append_nil]; exact hown) hb)
  · have hcells : ∀ j u, (u32s ys)[j]? = some u → W.cell? (ad.add j) = some u := by
      intro j u hu
      have hl : 0 < m := by
        rcases Nat.eq_zero_or_pos m with h0 | h0
        · subst h0
          have hn : ys = [] := List.eq_nil_of_length_eq_zero hr.len
          subst hn
          simp [u32s] at hu
        · exact h0
      obtain ⟨ad', hh, _, hc⟩ := hr.1.2 hl
      injection hh with hh
      subst hh
      exact hc j u hu
    refine wpList_append_own _ hgd s x t ho base 39 i0 (.int .u32 0) 1 4 ht hi hz0 hz1 hz2 rfl (by decide) v k _ hs hown ad m c (u32s ys) hx (by rw [u32s_length, hr.len, Nat.mul_one]) hcells (u32_one _) ?_ ?_ hbase ?_
    · unfold maxLen; omega
    · omega
    · intro v' w' h1 h2 _
      refine h v' w' ?_ ?_
      · rw [u32s_append]; exact h1
      · exact hb.grown h2 hbase fun j hj => (hown.lt j hj).1
theorem own_pos {w : World} {base : Nat} {e : TypeId} {v : Value} {n : Nat} {xs : List Value} (h : w.ownsRow base e 1 v n xs) (hn : 0 < n) : ∃ g cap, v = .slice (some ⟨g, 0, none⟩) n cap ∧ base ≤ g ∧ g < w.heap.size ∧ n ≤ cap ∧ cap ≤ maxLen := by
  rcases h.2 with ⟨_, h0⟩ | ⟨g, cap, cur, rfl, hb, hg, hnc, hm, _⟩
  · omega
  · exact ⟨g, cap, rfl, hb, (Array.getElem?_eq_some_iff.1 hg).1, hnc, hm⟩
/-- The first limbs of a row of the call's own. -/
theorem own_prefix {w : World} {base g n m cap : Nat} {xs ys : List Nat} (h : w.ownsRow base 39 1 (.slice (some ⟨g, 0, none⟩) n cap) n (u32s (xs ++ ys))) (hl : xs.length = m) (hm : m ≤ 1000000000) (hx : ∀ x ∈ xs, x < 4294967296) : Limbs w (some ⟨g, 0, none⟩) m xs := by
  have hlen : xs.length + ys.length = n := by have := h.1; simpa [u32s_length] using this
  refine ⟨⟨by rw [u32s_length]; omega, fun h0 => ⟨_, rfl, ?_, ?_⟩⟩, by omega, hx⟩
  · obtain ⟨g', cap', e1, _, h2, _⟩ := own_pos h (by omega)
    have e2 : g = g' ∧ cap = cap' := by simpa using e1
    show g < w.heap.size
    omega
  · intro j u hu
    have hj : j < m := by
      have h2 := (List.getElem?_eq_some_iff.1 hu).1
      rw [u32s_length] at h2
      omega
    rw [show (⟨g, 0, none⟩ : Addr).add j = ⟨g, j, none⟩ by unfold Addr.add; split <;> simp_all, h.cellAt j (by omega), u32s_append, List.getElem?_append_left (by rw [u32s_length]; omega)]
    exact hu
theorem own_cell_behind {w : World} {base g n cap : Nat} {xs ys : List Nat} (h : w.ownsRow base 39 1 (.slice (some ⟨g, 0, none⟩) n cap) n (u32s (xs ++ ys))) (j y : Nat) (hy : ys[j]? = some y) : w.cell? ⟨g, xs.length + j, none⟩ = some (.int .u32 (y : Int)) := by
  have hlen : xs.length + ys.length = n := by have := h.1; simpa [u32s_length] using this
  have hj := (List.getElem?_eq_some_iff.1 hy).1
  rw [h.cellAt _ (by omega), u32s_append, List.getElem?_append_right (by rw [u32s_length]; omega), u32s_length, Nat.add_sub_cancel_left, u32s_get, hy]
  rfl
theorem own_kept {w w' : World} {base B : Nat} {e : TypeId} {v : Value} {n : Nat} {xs : List Value} (h : w.ownsRow base e 1 v n xs) (hb : Below B w w') (hB : B = w.heap.size) : w'.ownsRow base e 1 v n xs := by
  subst hB
  refine h.kept (row := none) ⟨hb.os, hb.tape, hb.output, hb.size, fun k hk _ => hb.block k hk⟩ ?_
  cases hv : v.ownBlock <;> simp
theorem own_empty (w : World) (e : TypeId) : (w.alloc (.cells #[] e)).ownsRow w.heap.size e 1 (.slice (some ⟨w.heap.size, 0, none⟩) 0 0) 0 [] :=
  ⟨by simp, .inr ⟨w.heap.size, 0, #[], rfl, Nat.le_refl _, heap_alloc_new w _, Nat.le_refl _, by unfold maxLen; omega, rfl, by simp⟩⟩
theorem limbs_new2 (w : World) (x y : Nat) (hx : x < 4294967296) (hy : y < 4294967296) (E F : Int) (hE : E = (x : Int)) (hF : F = (y : Int)) : Limbs (w.alloc (.cells #[.int .u32 E, .int .u32 F] 39)) (some ⟨w.heap.size, 0, none⟩) 2 [x, y] := by
  subst hE
  subst hF
  refine ⟨⟨rfl, fun _ => ⟨_, rfl, by simp, ?_⟩⟩, by omega, by simp [hx, hy]⟩
  intro j u hu
  rcases j with _ | _ | j
  · rw [show (⟨w.heap.size, 0, none⟩ : Addr).add 0 = ⟨w.heap.size, 0, none⟩ by simp [Addr.add], World.cell?_alloc_at _ _ _ _ rfl]
    exact hu
  · rw [show (⟨w.heap.size, 0, none⟩ : Addr).add 1 = ⟨w.heap.size, 1, none⟩ by simp [Addr.add], World.cell?_alloc_at _ _ _ _ rfl]
    exact hu
  · simp [u32s] at hu
theorem own_kept_lt {w w' : World} {base B : Nat} {e : TypeId} {v : Value} {n : Nat} {xs : List Value} (h : w.ownsRow base e 1 v n xs) (hb : Below B w w') (hB : ∀ k, v.ownBlock = some k → k < B) : w'.ownsRow base e 1 v n xs := by
  refine ⟨h.1, ?_⟩
  rcases h.2 with h' | ⟨g, cap, cur, h1, h2, h3, h4⟩
  · exact .inl h'
  · refine .inr ⟨g, cap, cur, h1, h2, ?_, h4⟩
    rw [hb.block g (hB g (by rw [h1]; rfl))]
    exact h3
theorem u32s_set5 (zs : List Nat) (k x : Nat) : u32s (zs.set k x) = (u32s zs).set k (.int .u32 (x : Int)) := by simp [u32s, List.map_set]
/-- What a round needs that writes into a row of the call's own. -/
theorem own_round {w : World} {base n c k : Nat} {A : Option Addr} {zs : List Nat} (h : w.ownsRow base 39 1 (.slice A n c) n (u32s zs)) (hk : k < n) :
    ∃ g v, A = some ⟨g, 0, none⟩ ∧ base ≤ g ∧ w.cell? ⟨g, k, none⟩ = some v ∧ w.frozen? ⟨g, k, none⟩ = false ∧ (Value.slice A n c).ownBlock = some g := by
  obtain ⟨g, cap, e1, hb, _⟩ := own_pos h (by omega)
  simp only [Value.slice.injEq] at e1
  obtain ⟨rfl, -, rfl⟩ := e1
  have hlen : zs.length = n := by have := h.1; simpa [u32s_length] using this
  refine ⟨g, .int .u32 ((zs[k]'(by omega) : Nat) : Int), rfl, hb, ?_, h.frozenAt k, rfl⟩
  · rw [h.cellAt k (by omega), u32s_get, List.getElem?_eq_getElem (by omega)]
    rfl
end Go.Proofs.YtpbkndmciopnjaaDoor
