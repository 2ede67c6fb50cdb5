import Derived.Test.YtpbkndmciopnjaaDoorAns1
namespace Go.Proofs.YtpbkndmciopnjaaDoor
open Go.RowKit
/-- A list of limbs as an argument: its slice value's parts and what it reads. -/
structure Arg where
  A : Option Addr
  n : Nat
  c : Nat
  xs : List Nat
def Arg.v (t : Arg) : Value := .slice t.A t.n t.c
def Arg.fine (t : Arg) : Bool := decide (t.n ≤ 60) && t.xs.all (fun x => decide (x ≤ 999999999))
theorem Arg.fine_true {t : Arg} (h : t.fine = true) : t.n ≤ 60 ∧ ∀ x ∈ t.xs, x < 1000000000 := by
  simp only [Arg.fine, Bool.and_eq_true, decide_eq_true_eq, List.all_eq_true] at h
  exact ⟨h.1, fun x hx => by have := h.2 x hx; omega⟩
end Go.Proofs.YtpbkndmciopnjaaDoor
