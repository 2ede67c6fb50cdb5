/-
  TF: token's Print.
-/
import Derived.Test.YtogipbgfnjbakaaDoorTE
set_option maxRecDepth 100000
namespace Go.Proofs.YtogipbgfnjbakaaDoor
open Go.RowKit
/-- Runes as int32 has them. -/
def Rg (zs : List Int) : Prop := ∀ z ∈ zs, -2147483648 ≤ z ∧ z ≤ 2147483647
theorem rg_nil : Rg [] := fun _ h => absurd h (by simp)
theorem rg_append {xs ys : List Int} (hx : Rg xs) (hy : Rg ys) : Rg (xs ++ ys) := fun z hz => (List.mem_append.1 hz).elim (hx z) (hy z)
theorem rg_one {t : Tok} (h : R32 t) : Rg [t.1] := fun z hz => by rw [List.mem_singleton] at hz; subst hz; exact h
theorem rg_dbl {xs : List Int} (hx : Rg xs) : Rg (dbl xs) := by
  intro z hz
  obtain ⟨r, hr, hz⟩ := List.mem_flatMap.1 hz
  split at hz
  · simp only [List.mem_cons, List.not_mem_nil, or_false, or_self] at hz; subst hz; omega
  · rw [List.mem_singleton] at hz; subst hz; exact hx _ hr
theorem rg_inQ {xs : List Int} (hx : Rg xs) : Rg (inQ xs) := by
  unfold inQ; split
  · exact rg_dbl hx
  · intro z hz
    simp only [List.mem_cons, List.mem_append, List.not_mem_nil, or_false] at hz
    rcases hz with rfl | hz | rfl
    · omega
    · exact rg_dbl hx z hz
    · omega
/-- Is a token no plain '? -/
def okT (t : Tok) : Bool := t.2.1 || !decide (t.1 = 39)
theorem prtZ_ok {ts : List Tok} (h : ts.all okT = true) : prtZ ts = txtZ (prt ts []) := by
  have hm : ts.all mayT = (prt ts []).all isZ := by
    rw [prt_isZ, List.all_nil, Bool.true_and]
    have hgen : ∀ us : List Tok, us.all okT = true → us.all mayT = us.all fun t => isZ t.1 := by
      intro us
      induction us with
      | nil => intro _; rfl
      | cons t us ih =>
        intro h
        rw [List.all_cons, Bool.and_eq_true] at h
        rw [List.all_cons, List.all_cons, ih h.2, mayT, show (t.2.1 || !decide (t.1 = 39)) = true from h.1, Bool.and_true]
    exact hgen ts h
  rw [prtZ, txtZ, hm]; rfl
theorem prtZ_no {ts : List Tok} {t : Tok} (ht : t ∈ ts) (h : okT t = false) : prtZ ts = ⟨#[]⟩ := by
  have hm : ts.all mayT = false := by
    rw [Bool.eq_false_iff]
    intro ha
    have := List.all_eq_true.1 ha t ht
    rw [mayT, show (t.2.1 || !decide (t.1 = 39)) = false from h, Bool.and_false] at this
    cases this
  rw [prtZ, hm]; rfl
theorem tk_mem {ts : List Tok} {k : Nat} (h : k < ts.length) : tk ts k ∈ ts := by rw [tk_eq h]; exact List.getElem_mem h
theorem drop_tk {ts : List Tok} {k : Nat} (h : k < ts.length) : ts.drop k = tk ts k :: ts.drop (k + 1) := by rw [List.drop_eq_getElem_cons h, tk_eq h]
/-- A row stays as it is over what is done from a block behind it on. -/
theorem own_under {w w' : World} {base B : Nat} {e : TypeId} {size n : Nat} {v : Value} {xs : List Value} (h : w.ownsRow base e size v n xs) (hv : ∀ k, v.ownBlock = some k → k < B) (hb : Below B w w') : w'.ownsRow base e size v n xs := by
  refine ⟨h.1, ?_⟩
  rcases h.2 with h' | ⟨g, cap, cur, rfl, h1, h2, h3⟩
  · exact .inl h'
  · exact .inr ⟨g, cap, cur, rfl, h1, (hb.block g (hv g rfl)).trans h2, h3⟩
end Go.Proofs.YtogipbgfnjbakaaDoor
