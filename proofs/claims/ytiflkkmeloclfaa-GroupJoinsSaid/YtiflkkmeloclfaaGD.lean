/-
  GD: a slice of texts that came in.
-/
import Derived.SliceStrings
import Derived.Test.YtiflkkmeloclfaaKB
import Derived.Test.YtiflkkmeloclfaaGA
set_option maxRecDepth 100000
namespace Go.Proofs.Ytiflkkmeloclfaa
open Go.ChangeShapes Go.WideShapes Go.ChangeAt Go.RowKit
theorem bytesTxt : Try.prog.bytesOf 9 = 16 := by kernel_rfl
theorem cellsTxt : Try.prog.cellsOf 9 = 1 := by kernel_rfl
theorem txs_open {H : Type} {enc : TypeId × Value → H} {W : World} {a : Option Addr} {len cap : Nat} {d : DataW H} {p : List MemPlace} {ts : List TypeId} {ds : List (DataW H)} {j : Nat}
    (h : DataW.Trod enc Try.prog W 0 (fun _ => true) true 23 (.slice a len cap) d p) (hsz : (DataW.weightsEach Try.prog ts ds).all (· ≤ reachBytes) = true)
    (ht : ts[j]? = some 23) (hd : ds[j]? = some d) : ∃ xs, Tls W a len xs := by
  obtain ⟨fuel, hf⟩ := h
  rcases open_strings Try.underlying23 Try.underlying9 cellsTxt hf with ⟨hcs, _⟩ | ⟨x, l, c, ss, hcs, _, hl, hm, hz, hx, hcell, _⟩
  · simp [Value.cells] at hcs
    obtain ⟨rfl, rfl, rfl⟩ := hcs
    exact ⟨[], Reads.none_, by decide⟩
  · simp [Value.cells] at hcs
    obtain ⟨rfl, rfl, rfl⟩ := hcs
    simp only [Prod.mk.injEq] at hx
    obtain ⟨rfl, _⟩ := hx
    simp only [if_true] at hz
    have hr := sized_slice hsz ht hd Try.underlying23
    rw [bytesTxt] at hr
    simp only [strs, List.length_map, List.length_take, List.length_drop] at hr
    refine ⟨ss.take len, ⟨by simp [txV]; omega, fun h0 => ⟨x, rfl, ?_, ?_⟩⟩, by unfold reachBytes at hr; omega⟩
    · have := World.block_lt_of_cell? W _ (hcell 0 (by omega))
      rwa [block_of_add] at this
    · intro j u hu
      have hj : j < len := by
        have h2 := (List.getElem?_eq_some_iff.1 hu).1
        simp [txV] at h2
        omega
      rw [hcell j (by omega), ← hu, txV, List.getElem?_map, List.getElem?_take, if_pos hj, List.getD, List.getElem?_eq_getElem (by omega)]
      rfl
end Go.Proofs.Ytiflkkmeloclfaa
