/-
  ND: number parts of patterns, plain: what is printed is no longer than what was parsed; more # ahead.
-/
import Derived.Test.YtogipbgfnjbakaaDoorNC
set_option maxRecDepth 100000
namespace Go.Proofs.YtogipbgfnjbakaaDoor
theorem numP_form {plain frac : List Nat} {point : Bool} {sz : List Nat} {sci : Bool} {me : Nat} {plus : Bool} {p : NF} (h : numP plain frac point sz sci me plus = (p, 0)) :
    (point = false ∧ p = sigN plain sz sci me plus) ∨ p = digN plain frac sz sci me plus := by
  unfold numP at h
  split at h
  · split at h
    · exact absurd (Prod.mk.inj h).2 (by decide)
    · rename_i hp
      split at h
      · exact absurd (Prod.mk.inj h).2 (by decide)
      · refine .inl ⟨?_, (finN_ok h).2.2.symm⟩
        cases point
        · rfl
        · exact absurd (by simp) hp
  · split at h
    · exact absurd (Prod.mk.inj h).2 (by decide)
    · split at h
      · exact absurd (Prod.mk.inj h).2 (by decide)
      · exact .inr (finN_ok h).2.2.symm
theorem numW_form {whole frac : List Nat} {point : Bool} {sci : Bool} {me : Nat} {plus : Bool} {p : NF} (h : numW whole frac point sci me plus = (p, 0)) :
    (1 < (spl whole 0).length → (spl whole 0).any (· == 0) = false) ∧ pln whole ++ frac ≠ [] ∧ numP (pln whole) frac point (spl whole 0) sci me plus = (p, 0) := by
  unfold numW at h
  split at h
  · exact absurd (Prod.mk.inj h).2 (by decide)
  · split at h
    · exact absurd (Prod.mk.inj h).2 (by decide)
    · split at h
      · exact absurd (Prod.mk.inj h).2 (by decide)
      · rename_i hz
        split at h
        · exact absurd (Prod.mk.inj h).2 (by decide)
        · rename_i he
          refine ⟨fun hl => ?_, fun e => he (by rw [e]; rfl), h⟩
          rw [decide_eq_true hl, Bool.true_and] at hz
          exact Bool.eq_false_iff.2 hz
theorem spl_len (l : List Nat) : ∀ k, l.length + 1 = (pln l).length + (spl l k).length := by
  induction l with
  | nil => intro k; rfl
  | cons c t ih =>
    intro k
    by_cases hc : c = 44
    · subst hc
      rw [pln_comma, spl, if_pos rfl, List.length_cons, List.length_cons, ih 0]; omega
    · rw [pln_cons_ne hc, spl, if_neg hc, List.length_cons, List.length_cons, ih (k + 1)]; omega
theorem spl_pos (l : List Nat) : ∀ k, 1 ≤ (spl l k).length := by
  induction l with
  | nil => intro k; exact Nat.le_refl _
  | cons c t ih =>
    intro k
    rw [spl]; split
    · rw [List.length_cons]; omega
    · exact ih _
theorem spl_sum (l : List Nat) : ∀ k, (spl l k).sum = (pln l).length + k := by
  induction l with
  | nil => intro k; simp [spl, pln]
  | cons c t ih =>
    intro k
    by_cases hc : c = 44
    · subst hc
      rw [pln_comma, spl, if_pos rfl, List.sum_cons, ih 0]; omega
    · rw [pln_cons_ne hc, spl, if_neg hc, List.length_cons, ih (k + 1)]; omega
theorem sum_three (sz : List Nat) : (∀ x ∈ sz, 1 ≤ x) → 3 ≤ sz.length → sz.getD (sz.length - 1) 0 + sz.getD (sz.length - 2) 0 + 1 ≤ sz.sum := by
  induction sz with
  | nil => intro _ h; simp at h
  | cons x t ih =>
    intro hx hl
    have hx0 := hx x (List.mem_cons_self ..)
    have ht := fun y hy => hx y (List.mem_cons_of_mem _ hy)
    rw [List.length_cons] at hl ⊢
    by_cases h3 : 3 ≤ t.length
    · have := ih ht h3
      obtain ⟨n, hn⟩ : ∃ n, t.length = n + 3 := ⟨t.length - 3, by omega⟩
      rw [hn] at this ⊢
      rw [List.sum_cons, show n + 3 + 1 - 1 = (n + 2) + 1 by omega, show n + 3 + 1 - 2 = (n + 1) + 1 by omega, List.getD_cons_succ, List.getD_cons_succ]
      rw [show n + 3 - 1 = n + 2 by omega, show n + 3 - 2 = n + 1 by omega] at this
      omega
    · obtain ⟨a, b, rfl⟩ : ∃ a b, t = [a, b] := by
        match t, hl, h3 with
        | [a, b], _, _ => exact ⟨a, b, rfl⟩
        | [], hl, _ => simp at hl
        | [a], hl, _ => simp at hl
        | _ :: _ :: _ :: _, _, h3 => simp at h3
      simp [List.getD, List.sum_cons]
      omega
/-- What commas leave: the sizes are told by fewer characters. -/
theorem sizes_least {sz : List Nat} (h : 1 < sz.length → sz.any (· == 0) = false) (hp : 0 < primZ sz) :
    primZ sz + 1 + (if secZ sz ≠ primZ sz then secZ sz else 0) ≤ sz.sum ∧ 2 ≤ sz.length ∧ (secZ sz ≠ primZ sz → 3 ≤ sz.length) := by
  have hl : 1 < sz.length := by
    rcases Nat.lt_or_ge 1 sz.length with h1 | h1
    · exact h1
    · rw [primZ, if_neg (by omega)] at hp; omega
  have h1 : ∀ x ∈ sz, 1 ≤ x := by
    intro x hx
    have := List.any_eq_false.1 (h hl) x hx
    rcases Nat.eq_zero_or_pos x with h0 | h0
    · rw [h0] at this; simp at this
    · exact h0
  by_cases h3 : 3 ≤ sz.length
  · have := sum_three sz h1 h3
    have e1 : primZ sz = sz.getD (sz.length - 1) 0 := by rw [primZ, if_pos hl]
    have e2 : secZ sz = sz.getD (sz.length - 2) 0 := by rw [secZ, if_pos (by omega)]
    rw [e1, e2]
    refine ⟨?_, by omega, fun _ => h3⟩
    split <;> omega
  · have e : secZ sz = primZ sz := by rw [secZ, if_neg (by omega)]
    obtain ⟨a, b, rfl⟩ : ∃ a b, sz = [a, b] := by
      match sz, hl, h3 with
      | [a, b], _, _ => exact ⟨a, b, rfl⟩
      | [], hl, _ => simp at hl
      | [a], hl, _ => simp at hl
      | _ :: _ :: _ :: _, _, h3 => simp at h3
    rw [e, if_neg (by simp)]
    have := h1 a (by simp)
    refine ⟨?_, by simp, fun h => absurd rfl h⟩
    show b + 1 + 0 ≤ _
    simp; omega
theorem cmW_sz {P S : Nat} {l : List Nat} (h : ∀ c ∈ l, c ≠ 44) (hg : (P = 0 ∧ S = 0) ∨ (1 ≤ P ∧ 1 ≤ S)) (hl : 0 < P → P + 1 + (if S ≠ P then S else 0) ≤ l.length) :
    (spl (cmW P S l) 0).length = if P = 0 then 1 else if S = P then 2 else 3 := by
  rcases hg with ⟨rfl, rfl⟩ | ⟨hP, hS⟩
  · have e : cmW 0 0 l = l := by cases l with
      | nil => rfl
      | cons c t => rw [cmW, cmZ_nil_P]
    rw [e, spl_none h]; rfl
  · have hl' := hl (by omega)
    rw [if_neg (by omega)]
    cases l with
    | nil => simp at hl'
    | cons c t =>
      rw [List.length_cons] at hl'
      rw [cmW, spl, if_neg (h c (List.mem_cons_self ..)), cmZ_spl hP hS (fun x hx => h x (List.mem_cons_of_mem _ hx))]
      by_cases hSP : S = P
      · rw [if_neg (show ¬ S ≠ P from fun e => e hSP)] at hl'
        rw [if_neg (by omega), if_pos (.inl hSP), if_pos hSP]; rfl
      · rw [if_pos hSP] at hl'
        rw [if_neg (by omega), if_neg (by omega), if_neg hSP]; rfl
theorem OkN.groups {p : NF} (h : OkN p) : (p.prim = 0 ∧ p.sec = 0) ∨ (1 ≤ p.prim ∧ 1 ≤ p.sec) := by
  rcases h.grp with g | ⟨g1, g2, _⟩
  · exact .inl g
  · exact .inr ⟨g1, g2⟩
theorem whlC_len {p : NF} (h : OkN p) (m : Nat) : (cmW p.prim p.sec (whl p m)).length + 1 = (whl p m).length + (if p.prim = 0 then 1 else if p.sec = p.prim then 2 else 3) := by
  have hN : ∀ c ∈ whl p m, c ≠ 44 := fun c hc => (okW_ne (whl_ok h m c hc)).1
  have := spl_len (cmW p.prim p.sec (whl p m)) 0
  rw [cmW_pln _ _ hN, cmW_sz hN h.groups (whl_grp h m)] at this
  exact this
theorem prN_len {p : NF} (h : OkN p) (m : Nat) : (prN p m).length + 1 = (if p.sci then 0 else m) + max (leastN p) (p.minInt + p.maxSig) + (if p.prim = 0 then 1 else if p.sec = p.prim then 2 else 3) +
    (if 0 < p.maxFrac then 1 + p.maxFrac else 0) + (if p.sci then 1 + ((if p.plus then 1 else 0) + p.minExp) else 0) := by
  have h1 := whlC_len h m
  rw [whl_len h] at h1
  have h2 : (if 0 < p.maxFrac then 46 :: frcN p else []).length = if 0 < p.maxFrac then 1 + p.maxFrac else 0 := by
    split
    · rw [List.length_cons, frc_len h]; omega
    · rfl
  have h3 : (if p.sci then 69 :: expN p else []).length = if p.sci then 1 + ((if p.plus then 1 else 0) + p.minExp) else 0 := by
    split
    · rw [List.length_cons, expN, List.length_append, List.length_replicate]
      cases p.plus
      · rw [if_neg (by decide), if_neg (by decide), List.length_nil]; omega
      · rw [if_pos rfl, if_pos rfl, List.length_singleton]; omega
    · rfl
  rw [prN, List.length_append, List.length_append, h2, h3]
  omega
theorem cut_len {c : Nat} {l : List Nat} (h : l.any (· == c) = true) : l.length = (upA c l).length + (1 + (dnA c l).length) := by
  obtain ⟨x, hx, e⟩ := List.any_eq_true.1 h
  have e : x = c := by simpa using e
  subst e
  have hd : 0 < (l.dropWhile (· != x)).length := by
    rcases Nat.eq_zero_or_pos (l.dropWhile (· != x)).length with h0 | h0
    · have hn := List.eq_nil_of_length_eq_zero h0
      have ht : l.takeWhile (· != x) = l := by
        have := List.takeWhile_append_dropWhile (p := (· != x)) (l := l)
        rwa [hn, List.append_nil] at this
      rw [← ht] at hx
      have := List.all_eq_true.1 List.all_takeWhile x hx
      simp at this
    · exact h0
  have := congrArg List.length (List.takeWhile_append_dropWhile (p := (· != x)) (l := l))
  rw [List.length_append] at this
  rw [upA, dnA, List.length_drop]
  omega
theorem cut_none {c : Nat} {l : List Nat} (h : l.any (· == c) = false) : upA c l = l := by
  have h' : ∀ x ∈ l, (x != c) = true := fun x hx => by have := List.any_eq_false.1 h x hx; simpa using this
  have := List.takeWhile_append_of_pos (l₂ := []) h'
  simpa [upA] using this
theorem expT_len (e : List Nat) : e.length = (if e.head? = some 43 then 1 else 0) + (expT e).length := by
  rw [expT, List.length_drop]
  split
  · rename_i h
    cases e with
    | nil => cases h
    | cons x t => rw [List.length_cons]; omega
  · omega
theorem body_len {body : List Nat} {sci : Bool} {me : Nat} {plus : Bool} {p : NF} (h : numB body sci me plus = (p, 0)) (hexp : (sci = true ∧ 1 ≤ me ∧ me ≤ 9) ∨ (sci = false ∧ me = 0 ∧ plus = false)) :
    (p.sci = sci ∧ p.minExp = me ∧ p.plus = plus) ∧ max (leastN p) (p.minInt + p.maxSig) + (if p.prim = 0 then 1 else if p.sec = p.prim then 2 else 3) + (if 0 < p.maxFrac then 1 + p.maxFrac else 0) ≤ body.length + 1 := by
  obtain ⟨_, hW, hok⟩ := numB_ok h hexp
  obtain ⟨hz, hne, hP⟩ := numW_form hW
  have hl1 := spl_len (upA 46 body) 0
  have hl2 := spl_sum (upA 46 body) 0
  have hl3 := spl_pos (upA 46 body) 0
  have hne2 : 0 < (pln (upA 46 body)).length + (dnA 46 body).length := by
    rw [← List.length_append]; exact List.length_pos_iff.2 hne
  have hbody : body.length = (upA 46 body).length + (if body.any (· == 46) then 1 + (dnA 46 body).length else 0) := by
    split
    · rename_i hb; exact cut_len hb
    · rename_i hb; rw [cut_none (Bool.eq_false_iff.2 hb)]; rfl
  have hdn : body.any (· == 46) = false → dnA 46 body = [] := dnA_none
  generalize upA 46 body = W at *
  generalize dnA 46 body = F at *
  generalize spl W 0 = sz at *
  generalize hbp : body.any (· == 46) = pt at *
  have hs := sizes_ok hz
  have hgrp : (if primZ sz = 0 then 1 else if secZ sz = primZ sz then 2 else 3) ≤ sz.length := by
    split
    · omega
    · have := sizes_least hz (by omega)
      split
      · exact this.2.1
      · rename_i hh; exact this.2.2 hh
  rcases numP_form hP with ⟨hpt, rfl⟩ | rfl
  · refine ⟨⟨rfl, rfl, rfl⟩, ?_⟩
    subst hpt
    have hF := hdn rfl
    subst hF
    have hd : ((pln W).dropWhile h35).length ≤ (pln W).length := (List.dropWhile_sublist _).length_le
    have hlst : leastN (sigN (pln W) sz sci me plus) ≤ (pln W).length := by
      rw [leastN]
      split
      · exact Nat.zero_le _
      · split
        · rename_i hp
          have := (sizes_least hz hp).1
          show primZ sz + 1 + (if secZ sz ≠ primZ sz then secZ sz else 0) ≤ _
          omega
        · split
          · simp at hne2; omega
          · exact Nat.zero_le _
    show max _ (0 + ((pln W).dropWhile h35).length) + (if primZ sz = 0 then 1 else if secZ sz = primZ sz then 2 else 3) + 0 ≤ body.length + 1
    generalize leastN (sigN (pln W) sz sci me plus) = L at *
    generalize (if primZ sz = 0 then 1 else if secZ sz = primZ sz then 2 else 3) = G at *
    rw [if_neg (by decide)] at hbody
    omega
  · refine ⟨⟨rfl, rfl, rfl⟩, ?_⟩
    have hc1 : (pln W).countP dg ≤ (pln W).length := List.countP_le_length
    have hlst : leastN (digN (pln W) F sz sci me plus) ≤ (pln W).length := by
      rw [leastN]
      split
      · rename_i hsc
        have hsc : sci = true := by
          have : sci && true = true := hsc
          simpa using this
        show (if sci then (pln W).length else 0) ≤ _
        rw [hsc]; exact Nat.le_refl _
      · split
        · rename_i hp
          have := (sizes_least hz hp).1
          show primZ sz + 1 + (if secZ sz ≠ primZ sz then secZ sz else 0) ≤ _
          omega
        · split
          · rename_i hf
            have hf : F.length = 0 := hf
            omega
          · exact Nat.zero_le _
    show max _ ((pln W).countP dg + 0) + (if primZ sz = 0 then 1 else if secZ sz = primZ sz then 2 else 3) + (if 0 < F.length then 1 + F.length else 0) ≤ body.length + 1
    generalize leastN (digN (pln W) F sz sci me plus) = L at *
    generalize (if primZ sz = 0 then 1 else if secZ sz = primZ sz then 2 else 3) = G at *
    cases pt
    · have hF := hdn rfl
      subst hF
      rw [if_neg (by decide)] at hbody
      rw [if_neg (by decide)]
      omega
    · rw [if_pos rfl] at hbody
      split <;> omega
/-- What is printed is no longer than what was parsed. -/
theorem pr_shorter {l : List Nat} {p : NF} (h : numZ l = (p, 0)) : (prN p 0).length ≤ l.length := by
  have hok := okN_of h
  have hpl := prN_len hok 0
  unfold numZ at h
  cases ha : l.any (· == 69)
  · rw [ha, if_neg (by decide), cut_none ha] at h
    obtain ⟨⟨e1, e2, e3⟩, hb⟩ := body_len h (.inr ⟨rfl, rfl, rfl⟩)
    rw [e1] at hpl
    simp only [Bool.false_eq_true, if_false] at hpl
    omega
  · rw [ha, if_pos rfl] at h
    split at h
    · rename_i h1
      exact absurd (Prod.mk.inj h).2 h1
    · rename_i h1
      have h1 : (expZ (dnA 69 l)).1 = 0 := Decidable.not_not.1 h1
      obtain ⟨⟨e1, e2, e3⟩, hb⟩ := body_len h (.inl ⟨rfl, expZ_ok h1⟩)
      have hll := cut_len ha
      have hel := expT_len (dnA 69 l)
      have hx : (expZ (dnA 69 l)).2.1 = (expT (dnA 69 l)).length ∧ (expZ (dnA 69 l)).2.2 = decide ((dnA 69 l).head? = some 43) := by
        unfold expZ at h1 ⊢
        split at h1
        · exact absurd h1 (by decide)
        · rename_i g1
          split at h1
          · exact absurd h1 (by decide)
          · rename_i g2
            rw [if_neg g1, if_neg g2]; exact ⟨rfl, rfl⟩
      rw [e1, e2, e3, hx.1, hx.2, if_pos rfl, if_pos rfl] at hpl
      simp only [decide_eq_true_iff] at hpl
      omega
theorem pr_more_len {p : NF} (h : OkN p) (hs : p.sci = false) (m : Nat) : (prN p m).length = (prN p 0).length + m := by
  have h1 := prN_len h m
  have h2 := prN_len h 0
  rw [hs] at h1 h2
  simp only [Bool.false_eq_true, if_false] at h1 h2
  omega
theorem pr_sci {p : NF} (hs : p.sci = true) (m : Nat) : prN p m = prN p 0 := by
  rw [prN, prN, whl, whl, hs]; rfl
theorem cmZ_rep {P S : Nat} {t : List Nat} (hl : 0 < P → P < t.length ∧ (S ≠ P → P + S < t.length)) : ∀ m, cmZ P S (List.replicate m 35 ++ t) = List.replicate m 35 ++ cmZ P S t := by
  intro m
  induction m with
  | zero => rfl
  | succ m ih =>
    rw [List.replicate_succ, List.cons_append, cmZ, ih, if_neg, List.nil_append]; rfl
    rw [List.length_append, List.length_replicate]
    rintro ⟨h0, h1⟩
    have := hl h0
    rcases h1 with h1 | ⟨h1, h2⟩
    · omega
    · have := this.2 h1; omega
/-- More # ahead are just these. -/
theorem pr_more {p : NF} (h : OkN p) (hs : p.sci = false) (m : Nat) : prN p m = List.replicate m 35 ++ prN p 0 := by
  have hw : whl p m = List.replicate m 35 ++ whl p 0 := by
    rw [whl, whl, hs]; rfl
  have hg := whl_grp h 0
  have hc : cmW p.prim p.sec (whl p m) = List.replicate m 35 ++ cmW p.prim p.sec (whl p 0) := by
    rw [hw]
    cases m with
    | zero => rfl
    | succ m =>
      rw [List.replicate_succ, List.cons_append, cmW, cmZ_rep, List.cons_append]
      · cases hq : whl p 0 with
        | nil => rfl
        | cons c t =>
          rw [cmW, cmZ, if_neg, List.nil_append]
          rintro ⟨h0, h1⟩
          have := hg h0
          rw [hq, List.length_cons] at this
          rcases h1 with h1 | ⟨h1, h2⟩
          · split at this <;> omega
          · rw [if_pos h1] at this; omega
      · intro h0
        have := hg h0
        split at this
        · exact ⟨by omega, fun _ => by omega⟩
        · rename_i hh
          exact ⟨by omega, fun h => absurd h hh⟩
  rw [prN, prN, hc, List.append_assoc]
/-- A fault comes without fields. -/
theorem finN_err (mix : Bool) (q : NF) : (finN mix q).2 = 0 ∨ (finN mix q).1 = {} := by
  unfold finN; split
  · exact .inr rfl
  · split
    · exact .inr rfl
    · exact .inl rfl
theorem num_err (l : List Nat) : (numZ l).2 = 0 ∨ (numZ l).1 = {} := by
  have hP : ∀ plain frac point sz sci me plus, (numP plain frac point sz sci me plus).2 = 0 ∨ (numP plain frac point sz sci me plus).1 = {} := by
    intro plain frac point sz sci me plus
    unfold numP
    repeat' split
    all_goals first | exact .inr rfl | exact finN_err _ _
  have hB : ∀ b sci me plus, (numB b sci me plus).2 = 0 ∨ (numB b sci me plus).1 = {} := by
    intro b sci me plus
    unfold numB numW
    repeat' split
    all_goals first | exact .inr rfl | exact hP _ _ _ _ _ _ _
  unfold numZ
  split
  · split
    · exact .inr rfl
    · exact hB _ _ _ _
  · exact hB _ _ _ _
end Go.Proofs.YtogipbgfnjbakaaDoor
