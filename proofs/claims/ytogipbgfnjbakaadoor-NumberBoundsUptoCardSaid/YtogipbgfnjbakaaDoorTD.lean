/-
  TD: token's contracts: split, Scan.
-/
import Derived.Test.YtogipbgfnjbakaaDoorTC
set_option maxRecDepth 100000
namespace Go.Proofs.YtogipbgfnjbakaaDoor
open Go.RowKit
/-- What is left of a right text from p on. -/
def Rem (s : ByteArray) (p : Nat) (cs : List Nat) : Prop := p ≤ s.size ∧ (bts s).drop p = encs cs ∧ allC cs = true
theorem Rem.zero {s : ByteArray} (h : rst (bts s) = []) : Rem s 0 (cps (bts s)) := ⟨Nat.zero_le _, scan_right (bts_lt s) h, (scan_spec _ (bts_lt s)).2.1⟩
theorem Rem.len {s : ByteArray} {p : Nat} {cs : List Nat} (h : Rem s p cs) : p + (encs cs).length = s.size := by
  have := congrArg List.length h.2.1
  rw [List.length_drop, bts_length] at this
  have := h.1
  omega
theorem Rem.none {s : ByteArray} {p : Nat} (h : Rem s p []) : ¬ p < s.size := by
  have := h.len
  rw [encs_nil] at this
  simp at this; omega
theorem Rem.some {s : ByteArray} {p : Nat} {c : Nat} {cs : List Nat} (h : Rem s p (c :: cs)) :
    isC c = true ∧ Rem s (p + (encN c).length) cs ∧ Utf8.decode s p = (c, (encN c).length) ∧ p < s.size ∧ 1 ≤ (encN c).length := by
  obtain ⟨h1, h2⟩ := allC_cons.1 h.2.2
  have hl := h.len
  have hp := encN_pos c
  rw [encs_cons, List.length_append] at hl
  refine ⟨h1, ⟨by omega, ?_, h2⟩, ?_, by omega, hp⟩
  · rw [← List.drop_drop, h.2.1, encs_cons, List.drop_append_of_le_length (Nat.le_refl _), List.drop_length, List.nil_append]
  · rw [decode_bts, h.2.1, encs_cons, dec_enc h1]
theorem encs_39 {cs : List Nat} {l : List Nat} (h : encs cs = 39 :: l) : ∃ cs', cs = 39 :: cs' ∧ encs cs' = l := by
  cases cs with
  | nil => cases h
  | cons c cs =>
    rw [encs_cons] at h
    rcases encN_cases c with ⟨_, e⟩ | ⟨_, _, e⟩ | ⟨_, _, e⟩ | ⟨_, e⟩ <;> rw [e] at h <;> simp only [List.cons_append, List.nil_append, List.cons.injEq] at h
    · obtain ⟨rfl, h⟩ := h; exact ⟨cs, rfl, h⟩
    all_goals (exfalso; omega)
/-- Two '. -/
def twoS : ByteArray := ⟨#[39, 39]⟩
theorem bts_two : bts twoS = [39, 39] := rfl
theorem Rem.two {s : ByteArray} {p : Nat} {cs : List Nat} (h : Rem s p cs) : pfx twoS (s.extract p s.size) = true ↔ ∃ cs', cs = 39 :: 39 :: cs' := by
  rw [pfx_iff, bts_from, h.2.1, bts_two]
  constructor
  · rintro ⟨r, hr⟩
    obtain ⟨c1, rfl, h1⟩ := encs_39 hr
    obtain ⟨c2, rfl, _⟩ := encs_39 h1
    exact ⟨c2, rfl⟩
  · rintro ⟨cs', rfl⟩
    exact ⟨encs cs', by rw [encs_cons, encs_cons]; rfl⟩
/-- How far a scan is: F in the end, L till now, at p, what is ahead of nx is done, cs to come, quotes stand open at o. -/
def St (F : List Tok × Int) (L : List Tok) (p nx : Nat) (cs : List Nat) (o : Int) : Prop :=
  (nx ≤ p ∧ F = (L ++ (scn cs p o).1, (scn cs p o).2)) ∨ (nx = p + 1 ∧ ∃ cs', cs = 39 :: cs' ∧ F = (L ++ (scn cs' (p + 1) o).1, (scn cs' (p + 1) o).2))
section
variable {F : List Tok × Int} {L : List Tok} {p nx : Nat} {cs : List Nat} {o : Int}
theorem St.zero (cs : List Nat) : St (scn cs 0 (-1)) [] 0 0 cs (-1) := .inl ⟨Nat.le_refl _, by rw [List.nil_append]⟩
theorem St.end_ (h : St F L p nx [] o) : F = (L, o) := by
  rcases h with ⟨_, h⟩ | ⟨_, cs', h, _⟩
  · rw [h, scn_nil, List.append_nil]
  · cases h
theorem St.skip {c : Nat} (h : St F L p nx (c :: cs) o) (hp : p < nx) : c = 39 ∧ St F L (p + 1) nx cs o := by
  rcases h with ⟨h, _⟩ | ⟨h1, cs', h, h2⟩
  · omega
  · cases h
    exact ⟨rfl, .inl ⟨by omega, h2⟩⟩
theorem St.pair (h : St F L p nx (39 :: 39 :: cs) o) (hp : nx ≤ p) : St F (L ++ [(39, true, (p : Int))]) (p + 1) (p + 2) (39 :: cs) o := by
  rcases h with ⟨_, h⟩ | ⟨h, _⟩
  · refine .inr ⟨rfl, cs, rfl, ?_⟩
    rw [h, scn_two, List.append_assoc]; rfl
  · omega
theorem St.opens (h : St F L p nx (39 :: cs) o) (hp : nx ≤ p) (hc : cs.head? ≠ some 39) (ho : o < 0) : St F L (p + 1) nx cs (p : Int) := by
  rcases h with ⟨_, h⟩ | ⟨h, _⟩
  · refine .inl ⟨by omega, ?_⟩
    rw [h, scn_one hc, if_pos ho]
  · omega
theorem St.close (h : St F L p nx (39 :: cs) o) (hp : nx ≤ p) (hc : cs.head? ≠ some 39) (ho : ¬ o < 0) : St F L (p + 1) nx cs (-1) := by
  rcases h with ⟨_, h⟩ | ⟨h, _⟩
  · refine .inl ⟨by omega, ?_⟩
    rw [h, scn_one hc, if_neg ho]
  · omega
theorem St.other {c : Nat} (h : St F L p nx (c :: cs) o) (hp : nx ≤ p) (hc : c ≠ 39) : St F (L ++ [((c : Int), decide (0 ≤ o), (p : Int))]) (p + (encN c).length) nx cs o := by
  rcases h with ⟨_, h⟩ | ⟨h, _⟩
  · refine .inl ⟨by omega, ?_⟩
    rw [h, scn_else hc, List.append_assoc]; rfl
  · omega
end
theorem not_pair {cs : List Nat} (h : ¬ ∃ cs', 39 :: cs = 39 :: 39 :: cs') : cs.head? ≠ some 39 := by
  intro e
  cases cs with
  | nil => cases e
  | cons c cs => cases e; exact h ⟨cs, rfl⟩
end Go.Proofs.YtogipbgfnjbakaaDoor
