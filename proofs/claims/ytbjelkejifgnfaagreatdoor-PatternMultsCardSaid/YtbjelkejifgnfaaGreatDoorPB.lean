/-
  PB: faults of a pattern, plain: where they are.
-/
import Derived.Test.YtbjelkejifgnfaaGreatDoorPA
set_option maxRecDepth 100000
namespace Go.Proofs.YtbjelkejifgnfaaGreatDoor
open Go.RowKit
/-- A token stands ahead of the text's end. -/
theorem scn_strict (cs : List Nat) : ∀ (a : Nat) (o : Int), ∀ t ∈ (scn cs a o).1, (a : Int) ≤ t.2.2 ∧ t.2.2 + 1 ≤ (a : Int) + (encs cs).length := by
  induction cs using tok_ind with
  | h0 => intro a o t ht; simp [scn_nil] at ht
  | h2 cs ih =>
    intro a o t ht
    have e : (encs (39 :: 39 :: cs)).length = 2 + (encs cs).length := by
      rw [encs_cons, encs_cons, List.length_append, List.length_append]
      show 1 + (1 + _) = _
      omega
    rw [e]
    rw [scn_two] at ht
    rcases List.mem_cons.1 ht with rfl | ht
    · refine ⟨?_, ?_⟩ <;> dsimp only <;> omega
    · have := ih _ _ t ht; omega
  | h1 cs hh ih =>
    intro a o t ht
    have e : (encs (39 :: cs)).length = 1 + (encs cs).length := by
      rw [encs_cons, List.length_append]
      rfl
    rw [e]
    rw [scn_one hh] at ht
    have := ih _ _ t ht; omega
  | he c cs hc ih =>
    intro a o t ht
    have e : (encs (c :: cs)).length = (encN c).length + (encs cs).length := by rw [encs_cons, List.length_append]
    have h1 := encN_pos c
    rw [e]
    rw [scn_else hc] at ht
    rcases List.mem_cons.1 ht with rfl | ht
    · refine ⟨?_, ?_⟩ <;> dsimp only <;> omega
    · have := ih _ _ t ht; omega
theorem toks_at {l : List Nat} (hl : ∀ b ∈ l, b < 256) : ∀ t ∈ (toks l).1, 0 ≤ t.2.2 ∧ t.2.2 + 1 ≤ (l.length : Int) := by
  intro t ht
  unfold toks at ht
  split at ht
  · simp at ht
  · rename_i h1
    split at ht
    · simp at ht
    · split at ht
      · simp at ht
      · have h := scn_strict _ _ _ t ht
        have e := scan_right hl (by simpa using h1)
        rw [← e] at h
        omega
theorem toks_fault {l : List Nat} (hl : ∀ b ∈ l, b < 256) : ((toks l).2.1 = 0 → (toks l).2.2 = 0) ∧ 0 ≤ (toks l).2.2 ∧ (toks l).2.2 ≤ (l.length : Int) := by
  unfold toks
  split
  · rename_i h
    have h1 := badZ_range hl
    have h2 : ¬ badZ l < 0 := fun e => h (badZ_neg.1 e)
    exact ⟨fun e => by simp at e, by dsimp only; omega, h1.2⟩
  · rename_i h1
    have e := scan_right hl (by simpa using h1)
    have hr := (scn_range (cps l) 0 (-1) (by omega) (by omega)).1
    rw [← e] at hr
    split
    · exact ⟨fun e => by simp at e, by assumption, by have := hr.2; dsimp only; omega⟩
    · split
      · exact ⟨fun _ => rfl, by simp, by simp⟩
      · exact ⟨fun _ => rfl, by simp, by simp⟩
theorem elsL_mem (ts : List Tok) : ∀ e ∈ elsL ts, (∃ t ∈ ts, e.1.2.2 = t.2.2) ∧ ∃ t ∈ ts, e.1.1 = t.1 := by
  refine els_ind (P := fun ts => ∀ e ∈ elsL ts, (∃ t ∈ ts, e.1.2.2 = t.2.2) ∧ ∃ t ∈ ts, e.1.1 = t.1) ?_ ?_ ?_ ?_ ts
  · intro e he; simp [elsL] at he
  · intro t l h ih e he
    rw [elsL_no h] at he
    rcases List.mem_cons.1 he with rfl | he
    · exact ⟨⟨t, by simp, rfl⟩, t, by simp, rfl⟩
    · obtain ⟨⟨u, hu, e1⟩, v, hv, e2⟩ := ih e he
      exact ⟨⟨u, List.mem_cons_of_mem _ hu, e1⟩, v, List.mem_cons_of_mem _ hv, e2⟩
  · intro t h e he; rw [elsL_end h] at he; simp at he
  · intro t u l h ih e he
    rw [elsL_st h] at he
    rcases List.mem_cons.1 he with rfl | he
    · exact ⟨⟨t, by simp, rfl⟩, u, by simp, rfl⟩
    · obtain ⟨⟨u', hu, e1⟩, v, hv, e2⟩ := ih e he
      exact ⟨⟨u', List.mem_cons_of_mem _ (List.mem_cons_of_mem _ hu), e1⟩, v, List.mem_cons_of_mem _ (List.mem_cons_of_mem _ hv), e2⟩
theorem elsB_mem (ts : List Tok) : ∀ a, elsB ts = some a → ∃ t ∈ ts, a = t.2.2 := by
  refine els_ind (P := fun ts => ∀ a, elsB ts = some a → ∃ t ∈ ts, a = t.2.2) ?_ ?_ ?_ ?_ ts
  · intro a h; simp [elsB] at h
  · intro t l h ih a ha
    rw [elsB_no h] at ha
    obtain ⟨u, hu, e⟩ := ih a ha
    exact ⟨u, List.mem_cons_of_mem _ hu, e⟩
  · intro t h a ha
    rw [elsB_end h] at ha
    exact ⟨t, by simp, (Option.some.inj ha).symm⟩
  · intro t u l h ih a ha
    rw [elsB_st h] at ha
    obtain ⟨v, hv, e⟩ := ih a ha
    exact ⟨v, List.mem_cons_of_mem _ (List.mem_cons_of_mem _ hv), e⟩
theorem padR_mem (W : Nat → Int) (l : List El) : ∀ i a r, ((padR W i l a r).2.1 = 0 → (padR W i l a r).2.2 = 0) ∧ ((padR W i l a r).2.1 ≠ 0 → ∃ e ∈ l, (padR W i l a r).2.2 = e.1.2.2) := by
  induction l with
  | nil => intro i a r; exact ⟨fun _ => rfl, fun h => absurd rfl h⟩
  | cons e l ih =>
    intro i a r
    unfold padR
    split
    · split
      · exact ⟨fun h => by simp at h, fun _ => ⟨e, by simp, rfl⟩⟩
      · obtain ⟨h1, h2⟩ := ih (i + 1) (W i) e.1.1
        exact ⟨h1, fun h => by obtain ⟨x, hx, e'⟩ := h2 h; exact ⟨x, List.mem_cons_of_mem _ hx, e'⟩⟩
    · obtain ⟨h1, h2⟩ := ih (i + 1) a r
      exact ⟨h1, fun h => by obtain ⟨x, hx, e'⟩ := h2 h; exact ⟨x, List.mem_cons_of_mem _ hx, e'⟩⟩
theorem itms_mem (ts : List Tok) : ((itms ts).2.1 = 0 → (itms ts).2.2 = 0) ∧ ((itms ts).2.1 ≠ 0 → (itms ts).2.2 = 0 ∨ ∃ t ∈ ts, (itms ts).2.2 = t.2.2) := by
  unfold itms
  split
  · rename_i t h
    exact ⟨fun e => by simp at e, fun _ => .inr ⟨t, List.mem_of_find?_eq_some h, rfl⟩⟩
  · split
    · exact ⟨fun e => by simp at e, fun _ => .inl rfl⟩
    · exact ⟨fun _ => rfl, fun h => absurd rfl h⟩
theorem tksE_mem {l : List El} {t : Tok} (h : t ∈ tksE l) : ∃ e ∈ l, e.1 = t := by
  obtain ⟨e, he, e2⟩ := List.mem_map.1 h
  exact ⟨e, (List.mem_filter.1 he).1, e2⟩
theorem hpre_mem {l : List El} {e : El} (h : e ∈ hpre l) : e ∈ l := (List.takeWhile_prefix _).subset h
theorem hrst_mem {l : List El} {e : El} (h : e ∈ hrst l) : e ∈ l := (List.dropWhile_suffix _).subset h
theorem hsuf_mem {l : List El} {e : El} (h : e ∈ hsuf l) : e ∈ l := hrst_mem ((bhd_suffix _).subset h)
theorem hnum_mem {l : List El} {e : El} (h : e ∈ hnum l) : e ∈ l := hrst_mem (List.mem_of_mem_take h)
/-- Where a half's fault is. -/
theorem halfZ_mem (first : Bool) (b : Int) (l : List El) : ((halfZ first b l).2.1 = 0 → (halfZ first b l).2.2 = 0) ∧
    ((halfZ first b l).2.1 ≠ 0 → (halfZ first b l).2.2 = b ∨ (halfZ first b l).2.2 = 0 ∨ ∃ e ∈ l, (halfZ first b l).2.2 = e.1.2.2) := by
  unfold halfZ
  split
  · exact ⟨fun h => by simp at h, fun _ => .inl rfl⟩
  · rename_i e es hn
    split
    · rename_i h
      refine ⟨fun h' => absurd h' h, fun _ => ?_⟩
      obtain ⟨x, hx, e'⟩ := (padR_mem _ l 0 0 0).2 h
      exact .inr (.inr ⟨x, hx, e'⟩)
    · split
      · rename_i h
        refine ⟨fun h' => absurd h' h, fun _ => ?_⟩
        rcases (itms_mem _).2 h with h' | ⟨t, ht, e'⟩
        · exact .inr (.inl h')
        · obtain ⟨x, hx, rfl⟩ := tksE_mem ht
          exact .inr (.inr ⟨x, hpre_mem hx, e'⟩)
      · split
        · rename_i h
          refine ⟨fun h' => absurd h' (by simpa using h), fun _ => ?_⟩
          exact .inr (.inr ⟨e, hnum_mem (by rw [hn]; simp), rfl⟩)
        · split
          · rename_i h
            refine ⟨fun h' => absurd h' h, fun _ => ?_⟩
            rcases (itms_mem _).2 h with h' | ⟨t, ht, e'⟩
            · exact .inr (.inl h')
            · obtain ⟨x, hx, rfl⟩ := tksE_mem ht
              exact .inr (.inr ⟨x, hsuf_mem hx, e'⟩)
          · exact ⟨fun _ => rfl, fun h => absurd rfl h⟩
theorem mix_fault (p : Pt) : p.mix.2.2 = 0 ∧ (p.mix.2.1 ≠ 0 → p.mix.1 = {}) := by
  unfold Pt.mix
  split
  · exact ⟨rfl, fun _ => rfl⟩
  · exact ⟨rfl, fun h => absurd rfl h⟩
theorem compE_fault (es : List El) (N : Int) (hN : 0 ≤ N) (h : ∀ e ∈ es, 0 ≤ e.1.2.2 ∧ e.1.2.2 + 1 ≤ N) :
    ((compE es).2.1 = 0 → (compE es).2.2 = 0) ∧ ((compE es).2.1 ≠ 0 → (compE es).1 = {}) ∧ 0 ≤ (compE es).2.2 ∧ (compE es).2.2 ≤ N := by
  have hf : ∀ e ∈ fst16 es, e ∈ es := fun e he => (List.takeWhile_prefix _).subset he
  have hs : ∀ e ∈ snd16 es, e ∈ es := fun e he => (List.dropWhile_suffix _).subset he
  have hH : ∀ (f : Bool) (b : Int) (l : List El), (∀ e ∈ l, e ∈ es) → 0 ≤ b → b ≤ N → (halfZ f b l).2.1 ≠ 0 → 0 ≤ (halfZ f b l).2.2 ∧ (halfZ f b l).2.2 ≤ N := by
    intro f b l hl hb0 hbN he
    rcases (halfZ_mem f b l).2 he with e | e | ⟨x, hx, e⟩
    · rw [e]; exact ⟨hb0, hbN⟩
    · rw [e]; exact ⟨by omega, hN⟩
    · rw [e]; have := h x (hl x hx); omega
  unfold compE
  split
  · split
    · rename_i he
      refine ⟨fun e => absurd e he, fun _ => rfl, ?_⟩
      exact hH _ _ _ hf (by omega) hN he
    · obtain ⟨m1, m2⟩ := mix_fault (one16 (halfZ true 0 (fst16 es)).1)
      exact ⟨fun _ => m1, m2, by rw [m1]; omega, by rw [m1]; exact hN⟩
  · rename_i e r her
    have hre : e ∈ es := hs e (by rw [her]; simp)
    have hr : ∀ x ∈ r, x ∈ es := fun x hx => hs x (by rw [her]; exact List.mem_cons_of_mem _ hx)
    have he0 := h e hre
    split
    · rename_i f fs hfr
      have : f ∈ es := hr f ((List.dropWhile_suffix _).subset (show f ∈ snd16 r by rw [hfr]; simp))
      have := h f this
      exact ⟨fun e => by simp at e, fun _ => rfl, by dsimp only; omega, by dsimp only; omega⟩
    · split
      · rename_i he
        refine ⟨fun e => absurd e he, fun _ => rfl, ?_⟩
        exact hH _ _ _ hf (by omega) hN he
      · split
        · rename_i he
          refine ⟨fun e => absurd e he, fun _ => rfl, ?_⟩
          exact hH _ _ _ hr (by omega) (by omega) he
        · obtain ⟨m1, m2⟩ := mix_fault (two16 (halfZ true 0 (fst16 es)).1 (halfZ false (e.1.2.2 + 1) r).1)
          exact ⟨fun _ => m1, m2, by rw [m1]; omega, by rw [m1]; exact hN⟩
theorem compZ_fault {l : List Nat} (hl : ∀ b ∈ l, b < 256) :
    ((compZ l).2.1 = 0 → (compZ l).2.2 = 0) ∧ ((compZ l).2.1 ≠ 0 → (compZ l).1 = {}) ∧ 0 ≤ (compZ l).2.2 ∧ (compZ l).2.2 ≤ (l.length : Int) := by
  have ha := toks_at hl
  unfold compZ
  split
  · rename_i h
    obtain ⟨h1, h2, h3⟩ := toks_fault hl
    exact ⟨h1, fun _ => rfl, h2, h3⟩
  · split
    · rename_i a hb
      obtain ⟨t, ht, rfl⟩ := elsB_mem _ _ hb
      have := ha t ht
      exact ⟨fun e => by simp at e, fun _ => rfl, by dsimp only; omega, by dsimp only; omega⟩
    · refine compE_fault _ _ (by omega) fun e he => ?_
      obtain ⟨⟨t, ht, e'⟩, -⟩ := elsL_mem _ e he
      rw [e']; exact ha t ht
end Go.Proofs.YtbjelkejifgnfaaGreatDoor
