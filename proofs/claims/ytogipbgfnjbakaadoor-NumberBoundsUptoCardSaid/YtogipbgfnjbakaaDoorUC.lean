/-
  UC: the contracts of utf, and of the document's answers.
-/
import Derived.Test.YtogipbgfnjbakaaDoorUB
set_option maxRecDepth 100000
namespace Go.Proofs.YtogipbgfnjbakaaDoor
open Go.RowKit
set_option maxHeartbeats 400000 in
theorem hasPrefix0_c (s t : ByteArray) (w : World) (_hs : s.size ≤ 1000000000000000) (_ht : t.size ≤ 1000000000000000) : Calls Tryd.prog 58 #[.string s, .string t] w fun e w' => e = .returned (.bool (pfx t s)) ∧ w = w' := by
  by_cases h1 : t.size ≤ s.size
  · have hp : pfx t s = ((s.extract 0 t.size).toList == t.toList) := by
      rw [toList_beq, bts_upto, pfx, decide_eq_true h1, Bool.true_and]
    rw [hp]
    clear hp
    go_enter Tryd.func58, Tryd.ntmps58
    go_wp2
    go_ret
    exact ⟨rfl, rfl⟩
  · have hp : pfx t s = false := by rw [pfx, decide_eq_false h1, Bool.false_and]
    rw [hp]
    go_enter Tryd.func58, Tryd.ntmps58
    go_wp2
    go_ret
    exact ⟨rfl, rfl⟩
set_option maxHeartbeats 400000 in
theorem hasPrefix_c (s t : ByteArray) (w : World) (hs : s.size ≤ 1000000000000000) (ht : t.size ≤ 1000000000000000) : Calls Tryd.prog 37 #[.string s, .string t] w fun e w' => e = .returned (.bool (pfx t s)) ∧ w = w' := by
  go_enter Tryd.func37, Tryd.ntmps37
  go_wp2_with fail
  refine (hasPrefix0_c s t w hs ht).mono ?_
  rintro e w' ⟨rfl, rfl⟩
  go_wp2
  go_ret
  exact ⟨rfl, rfl⟩
/-- The text of runes; none, if one is no code point. -/
def txtZ (zs : List Int) : ByteArray := if zs.all isZ = true then stz (encs (nats zs)) else ⟨#[]⟩
theorem txtZ_ok {zs : List Int} (h : zs.all isZ = true) : txtZ zs = stz (encs (nats zs)) := by simp [txtZ, h]
theorem txtZ_no {zs : List Int} (h : zs.all isZ = false) : txtZ zs = ⟨#[]⟩ := by simp [txtZ, h]
theorem getD_mem {zs : List Int} {k : Nat} (hk : k < zs.length) : zs.getD k 0 ∈ zs := by
  rw [List.getD, List.getElem?_eq_getElem hk]; exact List.getElem_mem hk
theorem all_getD {zs : List Int} (h : ∀ j, j < zs.length → isZ (zs.getD j 0) = true) : zs.all isZ = true := by
  refine List.all_eq_true.2 fun z hz => ?_
  obtain ⟨j, hj, rfl⟩ := List.mem_iff_getElem.1 hz
  have := h j hj
  rwa [List.getD, List.getElem?_eq_getElem hj] at this
theorem all_no {zs : List Int} {k : Nat} (hk : k < zs.length) (h : isZ (zs.getD k 0) = false) : zs.all isZ = false := by
  rcases ha : zs.all isZ with _ | _
  · rfl
  · rw [List.all_eq_true.1 ha _ (getD_mem hk)] at h; cases h
/-- One, two, three, four bytes, in a new block. -/
theorem own_new {W : World} {base : Nat} (hb : base ≤ W.heap.size) (xs : List Nat) (vs : Array Value) (hv : vs.toList = u8s xs) (n : Nat) (hn : n = xs.length) (hm : n ≤ 1000) :
    (W.alloc (.cells vs 5)).ownsRow base 5 1 (.slice (some ⟨W.heap.size, 0, none⟩) n n) n (u8s xs) := by
  subst hn
  refine ⟨by simp [u8s], .inr ⟨W.heap.size, xs.length, vs, rfl, hb, heap_alloc_new W _, Nat.le_refl _, by unfold maxLen; omega, ?_, ?_⟩⟩
  · have := congrArg List.length hv
    simpa [u8s] using this
  · rw [hv, List.take_of_length_le (by simp [u8s])]
end Go.Proofs.YtogipbgfnjbakaaDoor
