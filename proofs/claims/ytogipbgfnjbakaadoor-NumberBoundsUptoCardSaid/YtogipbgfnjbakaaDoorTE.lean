/-
  TE: token's Scan.
-/
import Derived.Test.YtogipbgfnjbakaaDoorTD
set_option maxRecDepth 100000
namespace Go.Proofs.YtogipbgfnjbakaaDoor
open Go.RowKit
section
variable {w w' : World} {g : Nat} {x y : Value}
theorem Below.set2 {B : Nat} (h : Below B w w') (hg : B ≤ g) (x' y' : Value) : Below B w ((w'.setCell ⟨g, 0, none⟩ x').setCell ⟨g, 1, none⟩ y') :=
  (h.setCell (p := ⟨g, 0, none⟩) hg _).setCell (p := ⟨g, 1, none⟩) hg _
end
/-- A store below a row turns it not. -/
theorem own_setCell {w : World} {base : Nat} {e : TypeId} {size n : Nat} {v : Value} {xs : List Value} (h : w.ownsRow base e size v n xs) {p : Addr} (hp : p.block < base) (u : Value) : (w.setCell p u).ownsRow base e size v n xs := by
  refine h.kept (row := some p.block) ⟨rfl, rfl, rfl, by simp, fun k _ hk => heap_setCell_other w p k u (fun e => hk (by rw [e]))⟩ ?_
  rcases hv : v.ownBlock with _ | k
  · exact .inl rfl
  · right
    intro e
    have := (h.lt k hv).1
    cases e
    omega
theorem scn_isZ {cs : List Nat} (h : allC cs = true) (a : Nat) (o : Int) : ∀ t ∈ (scn cs a o).1, R32 t := fun t ht => r32_may (List.all_eq_true.1 (scn_may cs a o h) t ht)
theorem tk_take_succ (ts : List Tok) {k : Nat} (h : k < ts.length) : ts.take (k + 1) = ts.take k ++ [tk ts k] := by
  rw [List.take_succ_eq_append_getElem h, tk_eq h]
end Go.Proofs.YtogipbgfnjbakaaDoor
