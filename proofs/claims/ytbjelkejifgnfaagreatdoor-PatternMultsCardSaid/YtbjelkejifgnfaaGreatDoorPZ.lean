/-
  PZ: a pattern that came in, with its affixes.
-/
import Derived.Test.YtbjelkejifgnfaaGreatDoorNY2
import Derived.Test.YtbjelkejifgnfaaGreatDoorVK
import Derived.Test.YtbjelkejifgnfaaGreatDoorPM
set_option maxRecDepth 100000
namespace Go.Proofs.YtbjelkejifgnfaaGreatDoor
open Go.RowKit Go.ChangeShapes Go.WideShapes Go.ChangeAt Go.Deep
def patTs : List TypeId := [23, 23, 4, 23, 23, 3, 3, 3, 3, 3, 3, 3, 3, 9, 4, 3, 4, 3, 21, 3]
theorem its_field {H : Type} {enc : TypeId × Value → H} {W : World} {c : Value} {n : Nat} {y : DataW H × List MemPlace} {ds : List (DataW H)} {j : Nat}
    (h : DataW.trod enc Tryz.prog W 0 (fun _ => true) true n 23 [c] = some y) (hsz : (DataW.weightsEach Tryz.prog patTs ds).all (· ≤ reachBytes) = true) (ht : patTs[j]? = some 23) (hd : ds[j]? = some y.1) :
    ∃ A n c' is, c = .slice A n c' ∧ Its W A n is ∧ n ≤ c' := by
  rcases open_slice Tryz.underlying23 h with ⟨hcs, _⟩ | ⟨x, l, c', m, n', D, Pl, hcs, _, hl, _, _, _, _⟩
  · obtain rfl : c = .slice none 0 0 := by simpa using hcs
    exact ⟨none, 0, 0, [], rfl, its_nil W, Nat.le_refl _⟩
  · obtain rfl : c = .slice (some x) l c' := by simpa using hcs
    obtain ⟨is, hi⟩ := its_open (a := some x) (len := l) (cap := c') (d := y.1) (p := y.2) ⟨n, h⟩ hsz ht hd
    exact ⟨some x, l, c', is, rfl, hi, hl⟩
theorem open_pat16 {H : Type} {enc : TypeId × Value → H} {W : World} {b0 : Nat} {r : Reach} {v : Value} {d : DataW H} {p : List MemPlace} {ts : List TypeId} {ds : List (DataW H)} {j : Nat}
    (hv : Value.okWide Tryz.prog W r b0 25 v) (h : DataW.Trod enc Tryz.prog W 0 (fun _ => true) true 25 v d p)
    (hsz : (DataW.weightsEach Tryz.prog ts ds).all (· ≤ reachBytes) = true) (ht : ts[j]? = some 25) (hd : ds[j]? = some d) :
    ∃ PV i0 i1 i3 i4, v = .agg PV ∧ Aff W PV i0 i1 i3 i4 := by
  obtain ⟨cs, xs, n, rfl, hcz, rfl, hlen, hk⟩ := open_flat Tryz.underlying25 (by kernel_rfl) hv h
  have h20 : cs.size = 20 := hcz.trans (by kernel_rfl)
  obtain ⟨x0, x1, x2, x3, x4, c5, c6, c7, c8, c9, c10, c11, c12, c13, c14, c15, c16, y0, y1, y2, rfl⟩ := array20 h20
  have hszF : (DataW.weightsEach Tryz.prog patTs (xs.map (·.1))).all (· ≤ reachBytes) = true := List.all_eq_true.2 fun x hx => List.all_eq_true.1 hsz x (DataW.weights_mem_each ht hd x (by
    unfold DataW.weights
    simp only [Tryz.underlying25]
    exact hx))
  obtain ⟨z0, i0, k0⟩ := hk 0 _ x0 rfl rfl
  obtain ⟨z1, i1, k1⟩ := hk 1 _ x1 rfl rfl
  obtain ⟨z3, i3, k3⟩ := hk 3 _ x3 rfl rfl
  obtain ⟨z4, i4, k4⟩ := hk 4 _ x4 rfl rfl
  obtain ⟨A0, n0, c0, l0, rfl, h0, q0⟩ := its_field (j := 0) k0 hszF rfl (by rw [List.getElem?_map, i0]; rfl)
  obtain ⟨A1, n1, c1, l1, rfl, h1, q1⟩ := its_field (j := 1) k1 hszF rfl (by rw [List.getElem?_map, i1]; rfl)
  obtain ⟨A3, n3, c3, l3, rfl, h3, q3⟩ := its_field (j := 3) k3 hszF rfl (by rw [List.getElem?_map, i3]; rfl)
  obtain ⟨A4, n4, c4, l4, rfl, h4, q4⟩ := its_field (j := 4) k4 hszF rfl (by rw [List.getElem?_map, i4]; rfl)
  exact ⟨_, l0, l1, l3, l4, rfl, psize20, ⟨_, _, _, rfl, h0, q0⟩, ⟨_, _, _, rfl, h1, q1⟩, ⟨_, _, _, rfl, h3, q3⟩, ⟨_, _, _, rfl, h4, q4⟩⟩
end Go.Proofs.YtbjelkejifgnfaaGreatDoor
