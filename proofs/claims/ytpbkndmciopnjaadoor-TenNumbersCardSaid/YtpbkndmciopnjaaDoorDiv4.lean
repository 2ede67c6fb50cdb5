import Derived.Test.YtpbkndmciopnjaaDoorDiv3
import Derived.Test.YtpbkndmciopnjaaDoorOwn
namespace Go.Proofs.YtpbkndmciopnjaaDoor
open Go.RowKit
theorem own_one (w : World) (X : Nat) (E : Int) (hE : E = (X : Int)) : (w.alloc (.cells #[.int .u32 E] 39)).ownsRow w.heap.size 39 1 (.slice (some ⟨w.heap.size, 0, none⟩) 1 1) 1 (u32s [X]) := by
  subst hE
  exact own_of_blk (World.alloc_heap_new w _) (Nat.le_refl _) rfl (by unfold maxLen; omega)
theorem limbs_of_reads {w : World} {g n : Nat} {A : Option Addr} {xs : List Nat} (h : Reads w g 1 A n (u32s xs)) (hg : g ≤ w.heap.size) (hn : n ≤ 36000000000000) (hx : ∀ x ∈ xs, x < 1000000000) : Limbs w A n xs :=
  ⟨h.more hg, hn, fun x h' => by have := hx x h'; omega⟩
theorem own_lt {w : World} {base e size g n c : Nat} {xs : List Value} (h : w.ownsRow base e size (.slice (some ⟨g, 0, none⟩) n c) n xs) : g < w.heap.size := by
  rcases h.2 with ⟨h', _⟩ | ⟨g', cap', cur, h', _, hgb, _⟩
  · simp at h'
  · simp only [Value.slice.injEq, Option.some.injEq, Addr.mk.injEq, and_true, true_and] at h'
    obtain ⟨rfl, _⟩ := h'
    exact (Array.getElem?_eq_some_iff.1 hgb).1
theorem own_setCell_other {w : World} {base n g j : Nat} {e : TypeId} {v u : Value} {xs : List Value} (h : w.ownsRow base e 1 v n xs) (hg : g < base) : (w.setCell ⟨g, j, none⟩ u).ownsRow base e 1 v n xs := by
  refine ⟨h.1, ?_⟩
  rcases h.2 with h' | ⟨g', cap', cur, h1, h2, h3, h4⟩
  · exact .inl h'
  · refine .inr ⟨g', cap', cur, h1, h2, ?_, h4⟩
    rw [Below.heap_setCell _ _ _ g' (Nat.ne_of_gt (Nat.lt_of_lt_of_le hg h2))]
    exact h3
theorem OwnS.setCell_other {w : World} {base m c g j : Nat} {A : Option Addr} {u : Value} {ys : List Nat} (h : OwnS w base A m c ys) (hg : g < base) : OwnS (w.setCell ⟨g, j, none⟩ u) base A m c ys := ⟨own_setCell_other h.1 hg, h.2⟩
/-- Where a long division stands, k limbs of the first number being left. -/
structure LongAt (X Y N k : Nat) (rs zs : List Nat) : Prop where
  len : zs.length = N
  lt : ∀ z ∈ zs, z < 1000000000
  zero : ∀ j, j < k → zs.getD j 0 = 0
  rest : val 1000000000 rs < Y
  restLt : ∀ r ∈ rs, r < 1000000000
  eq : X = Y * val 1000000000 zs + 1000000000 ^ k * val 1000000000 rs + val 1000000000 ((digs 1000000000 X).take k)
theorem LongAt.next {X Y N k : Nat} {rs zs : List Nat} (h : LongAt X Y N (k + 1) rs zs) (hk : k < N) :
    val 1000000000 ((digs 1000000000 X).getD k 0 :: rs) < 1000000000 * Y ∧ (∀ x ∈ (digs 1000000000 X).getD k 0 :: rs, x < 1000000000) ∧
      val 1000000000 ((digs 1000000000 X).getD k 0 :: rs) / Y < 1000000000 ∧
      LongAt X Y N k (digs 1000000000 (val 1000000000 ((digs 1000000000 X).getD k 0 :: rs) % Y)) (zs.set k (val 1000000000 ((digs 1000000000 X).getD k 0 :: rs) / Y)) := by
  have hx := getD_lt 1000000000 (by omega) (digs 1000000000 X) (digs_lt 1000000000 (by omega) X) k
  have hv := val_take_succ 1000000000 (digs 1000000000 X) k
  have he := h.eq
  rw [hv, Nat.pow_succ] at he
  have hr := h.rest
  have hs := val_set 1000000000 zs k (val 1000000000 ((digs 1000000000 X).getD k 0 :: rs) / Y) (by rw [h.len]; omega)
  rw [h.zero k (by omega), Nat.mul_zero, Nat.add_zero] at hs
  have hc : ∀ d, val 1000000000 (d :: rs) = val 1000000000 rs * 1000000000 + d := fun d => by simp only [val]; omega
  have h1 := step_lt hr hx
  rw [← hc] at h1
  have hy0 : 0 < Y := by omega
  have hq : val 1000000000 ((digs 1000000000 X).getD k 0 :: rs) / Y < 1000000000 := by rw [Nat.div_lt_iff_lt_mul hy0]; omega
  refine ⟨h1, ?_, hq, ⟨by simpa using h.len, ?_, ?_, ?_, digs_lt 1000000000 (by omega) _, ?_⟩⟩
  · intro x hx'
    rcases List.mem_cons.1 hx' with rfl | hx'
    · exact hx
    · exact h.restLt x hx'
  · intro z hz
    rcases List.mem_or_eq_of_mem_set hz with hz | hz
    · exact h.lt z hz
    · rw [hz]; exact hq
  · intro j hj
    rw [getD_set_ne _ _ _ _ (by omega)]
    exact h.zero j (by omega)
  · rw [val_digs 1000000000 (by omega)]
    exact Nat.mod_lt _ hy0
  · rw [hs, val_digs 1000000000 (by omega)]
    exact long_step he (hc _)
end Go.Proofs.YtpbkndmciopnjaaDoor
