/-
  Rows of the call's own, whatever they hold: for laws that write over what was answered.
-/
import Derived.Test.YtpbkndmciopnjaaDoorOwn
namespace Go.Proofs.YtpbkndmciopnjaaDoor
open Go.RowKit
/-- A slice of n limbs in new memory, whatever they are. -/
def Ours (w : World) (base : Nat) (v : Value) (n : Nat) : Prop := ∃ xs, w.ownsRow base 39 1 v n xs
theorem Ours.setCell {w : World} {base n : Nat} {v : Value} (h : Ours w base v n) (g k : Nat) (u : Value) : Ours (w.setCell ⟨g, k, none⟩ u) base v n := by
  obtain ⟨xs, h⟩ := h
  rcases h.2 with h' | ⟨g', cap', cur, rfl, h2, h3, h4⟩
  · exact ⟨xs, h.1, .inl h'⟩
  · by_cases e : g = g'
    · subst e; exact ⟨_, (h.stored k u).1⟩
    · refine ⟨xs, h.1, .inr ⟨g', cap', cur, rfl, h2, ?_, h4⟩⟩
      rw [Below.heap_setCell _ _ _ g' (fun e' => e e'.symm)]
      exact h3
theorem Ours.round {w : World} {base n c k : Nat} {A : Option Addr} (h : Ours w base (.slice A n c) n) (hk : k < n) :
    ∃ g u, A = some ⟨g, 0, none⟩ ∧ base ≤ g ∧ w.cell? ⟨g, k, none⟩ = some u ∧ w.frozen? ⟨g, k, none⟩ = false := by
  obtain ⟨xs, h⟩ := h
  obtain ⟨g, cap, e1, hb, _⟩ := own_pos h (by omega)
  simp only [Value.slice.injEq] at e1
  obtain ⟨rfl, -, rfl⟩ := e1
  have hlen : xs.length = n := by simpa using h.1
  refine ⟨g, xs[k]'(by omega), rfl, hb, ?_, h.frozenAt k⟩
  rw [h.cellAt k (by omega), List.getElem?_eq_getElem (by omega)]
theorem Ours.keep {w w' : World} {base B n : Nat} {v : Value} (h : Ours w base v n) (hb : Below B w w') (hB : B = w.heap.size) : Ours w' base v n := by
  obtain ⟨xs, h⟩ := h
  exact ⟨xs, own_kept h hb hB⟩
theorem OwnS.ours {w : World} {base B m c : Nat} {A : Option Addr} {ys : List Nat} (h : OwnS w base A m c ys) (hB : B ≤ base) : Ours w B (.slice A m c) m := ⟨_, own_weaken h.1 hB⟩
end Go.Proofs.YtpbkndmciopnjaaDoor
