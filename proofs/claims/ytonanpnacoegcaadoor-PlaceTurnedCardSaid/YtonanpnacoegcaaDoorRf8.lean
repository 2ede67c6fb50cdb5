/-
  Rf8: the document's Round, to any step.
-/
import Derived.Test.YtonanpnacoegcaaDoorP8M
set_option maxRecDepth 100000
namespace Go.Proofs.YtonanpnacoegcaaDoor
open Go.RowKit
/-- What rounding answers: X small steps of ten to the power k, W of them the step. -/
def rndV (m : Int) (n : Bool) (X W : Nat) (k : Int) : Value :=
  if m = 7 ∧ X % W ≠ 0 then .tuple #[.agg #[.bool false, .string ⟨#[]⟩, .int .i64 0], .int .i64 11]
  else .tuple #[.agg #[.bool n, .string (nstr (rndN m n X W)), .int .i64 (nexp (rndN m n X W) k)], .int .i64 0]
theorem rndV_mult {m : Int} {n : Bool} {X W : Nat} {k : Int} (h : X % W = 0) : rndV m n X W k = .tuple #[.agg #[.bool n, .string (nstr X), .int .i64 (nexp X k)], .int .i64 0] := by
  rw [rndV, if_neg (fun hh => hh.2 h), rndN_mult h]
theorem rndV_no {n : Bool} {X W : Nat} {k : Int} (h : X % W ≠ 0) : rndV 7 n X W k = .tuple #[.agg #[.bool false, .string ⟨#[]⟩, .int .i64 0], .int .i64 11] := by
  rw [rndV, if_pos ⟨rfl, h⟩]
theorem rndV_of {m : Int} {n : Bool} {X W : Nat} {k : Int} (h : m ≠ 7) : rndV m n X W k = .tuple #[.agg #[.bool n, .string (nstr (rndN m n X W)), .int .i64 (nexp (rndN m n X W) k)], .int .i64 0] := by
  rw [rndV, if_neg (fun hh => h hh.1)]
theorem rndV_up {m : Int} {n : Bool} {X W : Nat} {k : Int} (h : m ≠ 7) (hx : X % W ≠ 0) (q : Nat) (hq : X / W + (if upN m n X W then 1 else 0) = q) :
    rndV m n X W k = .tuple #[.agg #[.bool n, .string (nstr (q * W)), .int .i64 (nexp (q * W) k)], .int .i64 0] := by
  rw [rndV_of h, rndN, if_neg hx, roundN, hq]
/-- Counted in finer steps it is the same. -/
theorem rndV_finer (m : Int) (n : Bool) (X W j : Nat) (k : Int) : rndV m n (X * 10 ^ j) (W * 10 ^ j) k = rndV m n X W (k + j) := by
  have h1 : X * 10 ^ j % (W * 10 ^ j) = X % W * 10 ^ j := Nat.mul_mod_mul_right _ _ _
  have h2 := pow_pos10 j
  unfold rndV
  rw [h1, rndN_scale m n X W _ h2, (n_scale _ _ k).1, (n_scale _ _ k).2]
  by_cases h : m = 7 ∧ X % W ≠ 0
  · rw [if_pos h, if_pos ⟨h.1, by have := Nat.mul_pos (Nat.pos_of_ne_zero h.2) h2; omega⟩]
  · rw [if_neg h, if_neg (fun hh => h ⟨hh.1, fun h3 => hh.2 (by rw [h3, Nat.zero_mul])⟩)]
theorem Kept4.res {w0 w : World} {L : List (Nat × Value × Value × Value)} {g : Nat} (h : Kept4 w0 L g w) : cellR g w := by
  obtain ⟨x, y, z, hb⟩ := h.2.1
  exact cellR_of hb
theorem zeros_v (z : Int) (j : Nat) (w : World) (hz : z = (j : Int)) (hj : j ≤ 100000) :
    Calls Tryd.prog 23 #[.int .i64 z] w fun r w' => r = .returned (.string (strD (List.replicate j 0))) ∧ Below w.heap.size w w' := by
  subst hz
  refine (zeros_c j w (by omega)).mono ?_
  rintro r w' ⟨s, rfl, hs, hb⟩
  exact ⟨by rw [hs.eq_strD], hb⟩
theorem strD_one : strD (decs 1) = ⟨#[49]⟩ := by rw [decs_snoc (by omega), decs_zero]; rfl
theorem plus_one (X : Nat) (w : World) (hx : (decs X).length ≤ 10000) :
    Calls Tryd.prog 26 #[.string (strD (decs X)), .string ⟨#[49]⟩] w fun r w' => r = .returned (.string (strD (decs (X + 1)))) ∧ Below w.heap.size w w' := by
  have := plus_n X 1 w hx (by rw [decs_snoc (by omega), decs_zero]; decide)
  rwa [strD_one] at this
theorem less_v (X Y : Nat) (v : Bool) (w : World) (hv : decide (X < Y) = v) :
    Calls Tryd.prog 27 #[.string (strD (decs X)), .string (strD (decs Y))] w fun r w' => r = .returned (.bool v) ∧ w = w' := by
  subst hv; exact less_c _ _ X Y w (isD_decs X) (isD_decs Y)
end Go.Proofs.YtonanpnacoegcaaDoor
