/-
  VB: affix's has, Needs, item, tell.
-/
import Derived.Test.YtogipbgfnjbakaaDoorTF
import Derived.Test.YtogipbgfnjbakaaDoorVA
set_option maxRecDepth 100000
namespace Go.Proofs.YtogipbgfnjbakaaDoor
open Go.RowKit
/-- A block of cells. -/
def BX (w : World) (g : Nat) (vs : Array Value) (T : TypeId) : Prop := w.heap[g]? = some (.cells vs T (0, 0))
section
variable {w w' : World} {g : Nat} {vs : Array Value} {T : TypeId}
theorem BX.c (h : BX w g vs T) (j : Nat) : w.cell? ⟨g, j, none⟩ = vs[j]? := by rw [cell_of_row w g j _ _ _ h]
theorem BX.v {v : Value} (h : BX w g vs T) (j : Nat) (hv : vs[j]? = some v) : w.cell? ⟨g, j, none⟩ = some v := (h.c j).trans hv
theorem BX.fr (h : BX w g vs T) (k : Nat) : w.frozen? ⟨g, k, none⟩ = false := by simp [World.frozen?, show w.heap[g]? = _ from h]
theorem BX.below {B : Nat} (h : BX w g vs T) (hb : Below B w w') (hg : g < B) : BX w' g vs T := (hb.block g hg).trans h
theorem BX.new (w : World) (vs : Array Value) (T : TypeId) : BX (w.alloc (.cells vs T)) w.heap.size vs T := heap_alloc_new w _
theorem BX.lt (h : BX w g vs T) : g < w.heap.size := (Array.getElem?_eq_some_iff.1 h).1
theorem BX.alloc (h : BX w g vs T) (o : Obj) : BX (w.alloc o) g vs T := (heap_alloc_old w o h.lt).trans h
theorem BX.set2 {x y : Value} (h : BX w g #[x, y] T) (x' y' : Value) : BX ((w.setCell ⟨g, 0, none⟩ x').setCell ⟨g, 1, none⟩ y') g #[x', y'] T :=
  heap_setCell_same _ g 1 _ _ y' (heap_setCell_same w g 0 _ _ x' h)
theorem BX.set3 {x y z : Value} (h : BX w g #[x, y, z] T) (x' y' z' : Value) : BX (((w.setCell ⟨g, 0, none⟩ x').setCell ⟨g, 1, none⟩ y').setCell ⟨g, 2, none⟩ z') g #[x', y', z'] T :=
  heap_setCell_same _ g 2 _ _ z' (heap_setCell_same _ g 1 _ _ y' (heap_setCell_same w g 0 _ _ x' h))
theorem Below.set3 {B : Nat} (h : Below B w w') (hg : B ≤ g) (x' y' z' : Value) : Below B w (((w'.setCell ⟨g, 0, none⟩ x').setCell ⟨g, 1, none⟩ y').setCell ⟨g, 2, none⟩ z') :=
  (Below.set2 h hg x' y').setCell (p := ⟨g, 2, none⟩) hg _
end
theorem ints_mem {x : Nat} {cs : List Nat} : ((x : Nat) : Int) ∈ ints cs ↔ x ∈ cs := by
  constructor
  · intro h
    obtain ⟨y, hy, e⟩ := List.mem_map.1 h
    rwa [← Int.ofNat_inj.1 e]
  · exact fun h => List.mem_map.2 ⟨x, h, rfl⟩
/-- What tell answers of an item. -/
def tlI (i : Itm) : Tok := if mayI i then tkI i else (0, false, 0)
theorem tlI_may {i : Itm} (h : mayI i = true) : tlI i = tkI i := by rw [tlI, if_pos h]
theorem tlI_no {i : Itm} (h : mayI i = false) : tlI i = (0, false, 0) := by rw [tlI, if_neg (by rw [h]; decide)]
end Go.Proofs.YtogipbgfnjbakaaDoor
