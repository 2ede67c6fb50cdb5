import Derived.Test.YtpbkndmciopnjaaDoorAns2
namespace Go.Proofs.YtpbkndmciopnjaaDoor
open Go.RowKit
/-- Limbs that are a number of at most k limbs. -/
def Arg.fineL (k : Nat) (t : Arg) : Bool := decide (t.n ≤ k) && t.xs.all (fun x => decide (x ≤ 999999999))
theorem Arg.fineL_true {k : Nat} {t : Arg} (h : t.fineL k = true) : t.n ≤ k ∧ ∀ x ∈ t.xs, x < 1000000000 := by
  simp only [Arg.fineL, Bool.and_eq_true, decide_eq_true_eq, List.all_eq_true] at h
  exact ⟨h.1, fun x hx => by have := h.2 x hx; omega⟩
theorem limbs_cells2 (w : World) (x y : Nat) (hx : x < 4294967296) (hy : y < 4294967296) : Limbs (w.alloc (.cells #[.int .u32 (x : Int), .int .u32 (y : Int)] 39)) (some ⟨w.heap.size, 0, none⟩) 2 [x, y] := by
  refine ⟨⟨rfl, fun _ => ⟨_, rfl, by simp, ?_⟩⟩, by omega, by simp [hx, hy]⟩
  intro j u hu
  rcases j with _ | _ | j
  · rw [show (⟨w.heap.size, 0, none⟩ : Addr).add 0 = ⟨w.heap.size, 0, none⟩ by simp [Addr.add], World.cell?_alloc_at _ _ _ _ rfl]
    exact hu
  · rw [show (⟨w.heap.size, 0, none⟩ : Addr).add 1 = ⟨w.heap.size, 1, none⟩ by simp [Addr.add], World.cell?_alloc_at _ _ _ _ rfl]
    exact hu
  · simp [u32s] at hu
theorem limbs_none (W : World) : Limbs W none 0 [] := ⟨Reads.none_, by omega, by simp⟩
end Go.Proofs.YtpbkndmciopnjaaDoor
