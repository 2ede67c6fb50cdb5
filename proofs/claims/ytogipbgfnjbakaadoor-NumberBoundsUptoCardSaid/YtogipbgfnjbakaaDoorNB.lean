/-
  NB: number parts of patterns, plain: what is parsed keeps its bounds; what is printed is parsed into the same.
-/
import Derived.Test.YtogipbgfnjbakaaDoorNA
set_option maxRecDepth 100000
namespace Go.Proofs.YtogipbgfnjbakaaDoor
theorem finN_ok {mix : Bool} {q p : NF} (h : finN mix q = (p, 0)) : mix = false ∧ bigN q = false ∧ q = p := by
  unfold finN at h
  cases mix
  · cases hb : bigN q
    · rw [hb] at h; exact ⟨rfl, rfl, (Prod.mk.inj h).1⟩
    · rw [hb] at h; exact absurd (Prod.mk.inj h).2 (by decide)
  · exact absurd (Prod.mk.inj h).2 (by decide)
theorem rows_mem {A B C : Nat → Bool} {l : List Nat} (h : rowsZ A B C l = true) : ∀ c ∈ l, A c = true ∨ B c = true ∨ C c = true := by
  intro c hc
  rw [rowsZ, List.isEmpty_iff] at h
  rw [← List.takeWhile_append_dropWhile (p := A) (l := l)] at hc
  rcases List.mem_append.1 hc with hc | hc
  · exact .inl (List.all_eq_true.1 List.all_takeWhile c hc)
  · rw [← List.takeWhile_append_dropWhile (p := B) (l := l.dropWhile A)] at hc
    rcases List.mem_append.1 hc with hc | hc
    · exact .inr (.inl (List.all_eq_true.1 List.all_takeWhile c hc))
    · rw [← List.takeWhile_append_dropWhile (p := C) (l := (l.dropWhile A).dropWhile B), h, List.append_nil] at hc
      exact .inr (.inr (List.all_eq_true.1 List.all_takeWhile c hc))
theorem drop_head {A : Nat → Bool} (l : List Nat) : ∀ c, (l.dropWhile A).head? = some c → A c = false := by
  induction l with
  | nil => intro c h; cases h
  | cons x t ih =>
    intro c h
    rw [List.dropWhile_cons] at h
    split at h
    · exact ih c h
    · rename_i hx
      cases h
      simpa using hx
theorem getD_mem_nat {l : List Nat} {k : Nat} (h : k < l.length) : l.getD k 0 ∈ l := by
  rw [List.getD, List.getElem?_eq_getElem h]; exact List.getElem_mem h
theorem sizes_ok {sz : List Nat} (h : 1 < sz.length → sz.any (· == 0) = false) : (¬ 1 < sz.length ∧ primZ sz = 0 ∧ secZ sz = 0) ∨ (1 < sz.length ∧ 1 ≤ primZ sz ∧ 1 ≤ secZ sz) := by
  by_cases hl : 1 < sz.length
  · right
    have hz := h hl
    have hp : ∀ k, k < sz.length → 1 ≤ sz.getD k 0 := by
      intro k hk
      rcases Nat.eq_zero_or_pos (sz.getD k 0) with h0 | h0
      · have := List.any_eq_false.1 hz _ (getD_mem_nat hk)
        rw [h0] at this
        simp at this
      · exact h0
    refine ⟨hl, ?_, ?_⟩
    · rw [primZ, if_pos hl]; exact hp _ (by omega)
    · unfold secZ; split
      · exact hp _ (by omega)
      · rw [primZ, if_pos hl]; exact hp _ (by omega)
  · left
    refine ⟨hl, by rw [primZ, if_neg hl], ?_⟩
    rw [secZ, if_neg (by omega), primZ, if_neg hl]
theorem countP_drop {A B : Nat → Bool} (h : ∀ c, B c = true → A c = false) (l : List Nat) : l.countP A = (l.dropWhile B).countP A := by
  conv => lhs; rw [← List.takeWhile_append_dropWhile (p := B) (l := l), List.countP_append]
  rw [List.countP_eq_zero.2, Nat.zero_add]
  intro c hc
  rw [h c (List.all_eq_true.1 List.all_takeWhile c hc)]; decide
theorem h35_a64 (c : Nat) (h : h35 c = true) : a64 c = false := by
  simp only [h35, beq_iff_eq] at h
  subst h; rfl
theorem filter_dg {l : List Nat} (h : ∀ c ∈ l, h35 c = true ∨ dg c = true) : (l.filter fun c => !h35 c) = l.filter dg := by
  refine List.filter_congr fun c hc => ?_
  rcases h c hc with h1 | h1
  · have : c = 35 := by simpa [h35] using h1
    subst this; rfl
  · rw [h1]
    have : ¬ c = 35 := by
      simp only [dg, Bool.and_eq_true, decide_eq_true_iff] at h1
      omega
    simp [h35, this]
theorem any_false {A : Nat → Bool} {l : List Nat} (h : ∀ c ∈ l, A c = false) : l.any A = false := by
  rw [List.any_eq_false]; intro c hc; rw [h c hc]; decide
theorem numP_ok {plain frac : List Nat} {point : Bool} {sz : List Nat} {sci : Bool} {me : Nat} {plus : Bool} {p : NF} (h : numP plain frac point sz sci me plus = (p, 0)) (hsz : 1 < sz.length → sz.any (· == 0) = false)
    (hne : plain ++ frac ≠ []) (hpt : point = false → frac = []) (hexp : (sci = true ∧ 1 ≤ me ∧ me ≤ 9) ∨ (sci = false ∧ me = 0 ∧ plus = false)) : OkN p := by
  have hs := sizes_ok hsz
  unfold numP at h
  cases ha : (plain ++ frac).any a64
  · rw [ha, if_neg (by decide)] at h
    cases hr : (!rowsZ h35 dg dg plain || !rowsZ dg h35 h35 frac)
    · rw [hr, if_neg (by decide)] at h
      cases hi : (!(incZ (plain ++ frac)).isEmpty && (decide (frac.countP dg < frac.length) || sci))
      · rw [hi, if_neg (by decide)] at h
        obtain ⟨hm, hb, rfl⟩ := finN_ok h
        simp only [Bool.or_eq_false_iff, Bool.not_eq_false'] at hr
        have hm1 := rows_mem hr.1
        have hm2 := rows_mem hr.2
        have hc1 : plain.countP dg ≤ plain.length := List.countP_le_length
        have hc2 : frac.countP dg ≤ frac.length := List.countP_le_length
        have hall : ∀ c ∈ plain ++ frac, h35 c = true ∨ dg c = true := by
          intro c hc
          rcases List.mem_append.1 hc with hc | hc
          · rcases hm1 c hc with h | h | h
            · exact .inl h
            · exact .inr h
            · exact .inr h
          · rcases hm2 c hc with h | h | h
            · exact .inr h
            · exact .inl h
            · exact .inl h
        have hne2 : 0 < plain.length + frac.length := by
          rw [← List.length_append]
          exact List.length_pos_iff.2 hne
        refine ⟨hexp, ?_, hb, .inr ⟨⟨rfl, rfl⟩, hc2, ?_, ?_⟩⟩
        · rcases hs with ⟨_, h1, h2⟩ | ⟨h0, h1, h2⟩
          · exact .inl ⟨h1, h2⟩
          · refine .inr ⟨h1, h2, ?_⟩
            show sci = false
            rw [decide_eq_true h0, Bool.and_true] at hm
            exact hm
        · cases sci
          · exact .inr ⟨rfl, rfl⟩
          · exact .inl ⟨rfl, hc1, hne2⟩
        · by_cases hinc : incZ (plain ++ frac) = []
          · exact .inl hinc
          · right
            have hE : (incZ (plain ++ frac)).isEmpty = false := by
              rw [Bool.eq_false_iff]; intro e; exact hinc (List.isEmpty_iff.1 e)
            rw [hE] at hi
            simp only [Bool.not_false, Bool.true_and, Bool.or_eq_false_iff, decide_eq_false_iff_not] at hi
            refine ⟨?_, ?_, ?_, ?_, hi.2⟩
            · show (incZ (plain ++ frac)).length ≤ plain.countP dg + frac.countP dg
              rw [incZ, filter_dg hall, ← List.countP_append, List.countP_eq_length_filter]
              exact (List.dropWhile_sublist _).length_le
            · show (incZ (plain ++ frac)).all dg = true
              rw [incZ, filter_dg hall]
              refine List.all_eq_true.2 fun c hc => ?_
              exact (List.mem_filter.1 ((List.dropWhile_sublist _).subset hc)).2
            · intro e
              have := drop_head _ _ e
              simp [z48] at this
            · show frac.countP dg = frac.length
              omega
      · rw [hi, if_pos rfl] at h; exact absurd (Prod.mk.inj h).2 (by decide)
    · rw [hr, if_pos rfl] at h; exact absurd (Prod.mk.inj h).2 (by decide)
  · rw [ha, if_pos rfl] at h
    cases hp : (point || plain.any dg)
    · rw [hp, if_neg (by decide)] at h
      simp only [Bool.or_eq_false_iff] at hp
      have hf := hpt hp.1
      subst hf
      rw [List.append_nil] at ha
      cases hr : rowsZ h35 a64 h35 plain
      · rw [hr] at h; exact absurd (Prod.mk.inj h).2 (by decide)
      · rw [hr] at h
        obtain ⟨hm, hb, rfl⟩ := finN_ok h
        refine ⟨hexp, ?_, hb, .inl ⟨⟨?_, ?_⟩, rfl, rfl, rfl, rfl, rfl⟩⟩
        · rcases hs with ⟨_, h1, h2⟩ | ⟨h0, h1, h2⟩
          · exact .inl ⟨h1, h2⟩
          · refine .inr ⟨h1, h2, ?_⟩
            show sci = false
            rw [decide_eq_true h0, Bool.true_or, Bool.and_true] at hm
            exact hm
        · show 1 ≤ plain.countP a64
          obtain ⟨c, hc, hac⟩ := List.any_eq_true.1 ha
          exact List.countP_pos_iff.2 ⟨c, hc, hac⟩
        · show plain.countP a64 ≤ (plain.dropWhile h35).length
          rw [countP_drop h35_a64]
          exact List.countP_le_length
    · rw [hp, if_pos rfl] at h; exact absurd (Prod.mk.inj h).2 (by decide)
theorem dw_nil {A : Nat → Bool} {l : List Nat} (h : ∀ x ∈ l, A x = true) : l.dropWhile A = [] := by
  induction l with
  | nil => rfl
  | cons x t ih => rw [List.dropWhile_cons, if_pos (h x (List.mem_cons_self ..))]; exact ih fun y hy => h y (List.mem_cons_of_mem _ hy)
theorem dnA_none {c : Nat} {l : List Nat} (h : l.any (· == c) = false) : dnA c l = [] := by
  rw [dnA, dw_nil]; rfl
  intro x hx
  have := List.any_eq_false.1 h x hx
  simpa using this
theorem numB_ok {body : List Nat} {sci : Bool} {me : Nat} {plus : Bool} {p : NF} (h : numB body sci me plus = (p, 0)) (hexp : (sci = true ∧ 1 ≤ me ∧ me ≤ 9) ∨ (sci = false ∧ me = 0 ∧ plus = false)) :
    body.all okB = true ∧ numW (upA 46 body) (dnA 46 body) (body.any (· == 46)) sci me plus = (p, 0) ∧ OkN p := by
  unfold numB at h
  cases ho : body.all okB
  · rw [ho] at h; exact absurd (Prod.mk.inj h).2 (by decide)
  · rw [ho, if_neg (by decide)] at h
    refine ⟨rfl, h, ?_⟩
    unfold numW at h
    split at h
    · exact absurd (Prod.mk.inj h).2 (by decide)
    · split at h
      · exact absurd (Prod.mk.inj h).2 (by decide)
      · split at h
        · exact absurd (Prod.mk.inj h).2 (by decide)
        · rename_i hz
          split at h
          · exact absurd (Prod.mk.inj h).2 (by decide)
          · rename_i he
            refine numP_ok h (fun hl => ?_) (fun e => he (by rw [e]; rfl)) dnA_none hexp
            rw [decide_eq_true hl, Bool.true_and] at hz
            exact Bool.eq_false_iff.2 hz
theorem expZ_ok {e : List Nat} (h : (expZ e).1 = 0) : 1 ≤ (expZ e).2.1 ∧ (expZ e).2.1 ≤ 9 := by
  unfold expZ at h ⊢
  split at h
  · exact absurd h (by decide)
  · rename_i h1
    split at h
    · exact absurd h (by decide)
    · rename_i h2
      rw [if_neg h1, if_neg h2]
      simp only [Bool.or_eq_true, not_or] at h1
      have : expT e ≠ [] := fun e' => h1.1 (by rw [e']; rfl)
      have := List.length_pos_iff.2 this
      exact ⟨this, Nat.le_of_not_lt h2⟩
/-- What is parsed keeps its bounds. -/
theorem okN_of {l : List Nat} {p : NF} (h : numZ l = (p, 0)) : OkN p := by
  unfold numZ at h
  split at h
  · split at h
    · rename_i h1
      exact absurd (Prod.mk.inj h).2 h1
    · rename_i h1
      have h1 : (expZ (dnA 69 l)).1 = 0 := Decidable.not_not.1 h1
      exact (numB_ok h (.inl ⟨rfl, expZ_ok h1⟩)).2.2
  · exact (numB_ok h (.inr ⟨rfl, rfl, rfl⟩)).2.2
end Go.Proofs.YtogipbgfnjbakaaDoor
