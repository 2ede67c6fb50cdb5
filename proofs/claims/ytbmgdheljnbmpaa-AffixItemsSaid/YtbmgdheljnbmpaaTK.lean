/-
  TK: what a slice of tokens that came in is to the walks.
-/
import Derived.Deep.Strs
import Derived.Deep.Slices
import Derived.Test.YtbmgdheljnbmpaaKB
import Derived.Test.YtbmgdheljnbmpaaUF
import Derived.Test.YtbmgdheljnbmpaaTB
set_option maxRecDepth 100000
namespace Go.Proofs.Ytbmgdheljnbmpaa
open Go.ChangeShapes Go.WideShapes Go.ChangeAt Go.RowKit Go.Deep
theorem bytesTok : Try.prog.bytesOf 36 = 16 := by kernel_rfl
theorem cellsTok : Try.prog.cellsOf 36 = 3 := by kernel_rfl
theorem cellsBool : Try.prog.cellsOf 4 = 1 := by kernel_rfl
theorem cellsInt : Try.prog.cellsOf 3 = 1 := by kernel_rfl
/-- A token's cells, as they came in. -/
theorem tok_open {H : Type} {enc : TypeId × Value → H} {W : World} {base : Nat} {sp : Nat → Bool} {hd : Bool} {fuel : Nat} {cs : List Value} {x : DataW H × List MemPlace}
    (h : DataW.trod enc Try.prog W base sp hd fuel 36 cs = some x) : ∃ t : Tok, cs = tokV t ∧ R32 t := by
  obtain ⟨y0, y1, y2, n, _, hl, h0, h1, h2⟩ := trod_struct3 Try.underlying36 h
  rw [cellsTok] at hl
  match cs, hl with
  | [v0, v1, v2], _ =>
    have h0' : DataW.trod enc Try.prog W base sp hd n 21 ([v0, v1, v2].take (Try.prog.cellsOf 21)) = some y0 := h0
    have h1' : DataW.trod enc Try.prog W base sp hd n 4 ([v1, v2].take (Try.prog.cellsOf 4)) = some y1 := h1
    have h2' : DataW.trod enc Try.prog W base sp hd n 3 ([v2].take (Try.prog.cellsOf 3)) = some y2 := h2
    rw [cellsI32] at h0'
    rw [cellsBool] at h1'
    rw [cellsInt] at h2'
    obtain ⟨r, e0, _, hr⟩ := DataW.trod_int Try.underlying21 h0'
    obtain ⟨q, e1, _⟩ := DataW.trod_bool Try.underlying4 h1'
    obtain ⟨p, e2, _, _⟩ := DataW.trod_int Try.underlying3 h2'
    cases e0
    cases e1
    cases e2
    exact ⟨(r, q, p), rfl, i32_range hr⟩
theorem flatMap_getElem {α : Type} (f : Nat → List α) (hf : ∀ i, (f i).length = 3) : ∀ (n : Nat), ((List.range n).flatMap f).length = n * 3 ∧ ∀ j, j < n * 3 → ((List.range n).flatMap f)[j]? = (f (j / 3))[j % 3]? := by
  intro n
  induction n with
  | zero => exact ⟨rfl, fun j hj => absurd hj (by omega)⟩
  | succ n ih =>
    have e : (List.range (n + 1)).flatMap f = (List.range n).flatMap f ++ f n := by rw [List.range_succ, List.flatMap_append]; simp
    rw [e, List.length_append, hf, ih.1]
    refine ⟨by omega, fun j hj => ?_⟩
    by_cases h : j < n * 3
    · rw [List.getElem?_append_left (by rw [ih.1]; exact h), ih.2 j h]
    · rw [List.getElem?_append_right (by rw [ih.1]; omega), ih.1, show j / 3 = n by omega, show j % 3 = j - n * 3 by omega]
theorem tks_open {H : Type} {enc : TypeId × Value → H} {W : World} {a : Option Addr} {len cap : Nat} {d : DataW H} {p : List MemPlace} {ts : List TypeId} {ds : List (DataW H)} {j : Nat}
    (h : DataW.Trod enc Try.prog W 0 (fun _ => true) true 22 (.slice a len cap) d p) (hsz : (DataW.weightsEach Try.prog ts ds).all (· ≤ reachBytes) = true)
    (ht : ts[j]? = some 22) (hd : ds[j]? = some d) : ∃ xs, Tks W a len xs := by
  obtain ⟨fuel, hf⟩ := h
  rcases open_slice Try.underlying22 hf with ⟨hcs, _⟩ | ⟨x, l, c, m, n, D, Pl, hcs, _, hl, hm, hmm, hx, hi⟩
  · simp [Value.cells] at hcs
    obtain ⟨rfl, rfl, rfl⟩ := hcs
    exact ⟨[], tks_nil W⟩
  · simp [Value.cells] at hcs
    obtain ⟨rfl, rfl, rfl⟩ := hcs
    simp only [if_true] at hmm
    subst hmm
    simp only [Prod.mk.injEq] at hx
    obtain ⟨rfl, _⟩ := hx
    have hr := sized_slice hsz ht hd Try.underlying22
    rw [bytesTok] at hr
    simp only [List.length_map, List.length_range] at hr
    rw [cellsTok] at hi
    have htok : ∀ i, i < len → ∃ t : Tok, R32 t ∧ ∀ k, k < 3 → W.cell? (x.add (i * 3 + k)) = (tokV t)[k]? := by
      intro i hil
      obtain ⟨cs', h1, h2⟩ := hi i (by omega)
      obtain ⟨_, _, h3⟩ := World.cells?_some h1
      obtain ⟨t, rfl, hR⟩ := tok_open h2
      exact ⟨t, hR, fun k hk => by rw [← add_of_add]; exact h3 k hk⟩
    have hch : ∃ f : Nat → Tok, ∀ i, i < len → R32 (f i) ∧ ∀ k, k < 3 → W.cell? (x.add (i * 3 + k)) = (tokV (f i))[k]? :=
      ⟨fun i => if hil : i < len then (htok i hil).choose else (0, false, 0), fun i hil => by dsimp only; rw [dif_pos hil]; exact (htok i hil).choose_spec⟩
    obtain ⟨f, hff⟩ := hch
    have hfm := flatMap_getElem (fun i => tokV (f i)) (fun _ => rfl) len
    have hval : toksV ((List.range len).map f) = (List.range len).flatMap (fun i => tokV (f i)) := by rw [toksV, List.flatMap_map]
    refine ⟨(List.range len).map f, ⟨by rw [hval, hfm.1], fun h0 => ⟨x, rfl, ?_, ?_⟩⟩, by unfold reachBytes at hr; omega, ?_⟩
    · have h1 := (hff 0 h0).2 0 (by omega)
      have := World.block_lt_of_cell? W _ h1
      rwa [block_of_add] at this
    · intro j u hu
      rw [hval] at hu
      have hjl : j < len * 3 := by
        have := (List.getElem?_eq_some_iff.1 hu).1
        rw [hfm.1] at this
        exact this
      rw [hfm.2 j hjl] at hu
      have h1 := (hff (j / 3) (by omega)).2 (j % 3) (by omega)
      rw [show j / 3 * 3 + j % 3 = j by omega] at h1
      rw [h1]; exact hu
    · intro t ht'
      obtain ⟨i, hi', rfl⟩ := List.mem_map.1 ht'
      exact (hff i (List.mem_range.1 hi')).1
end Go.Proofs.Ytbmgdheljnbmpaa
