/-
  NJ: what the program asks of a number part, step by step, is what the document's Number answers.
-/
import Derived.Test.YtogipbgfnjbakaaDoorNI
set_option maxRecDepth 100000
namespace Go.Proofs.YtogipbgfnjbakaaDoor
/-- A text that may be a number part, cut. -/
structure Prt where
  main : List Nat
  sci : Bool
  exp : List Nat
  whole : List Nat
  frac : List Nat
  pointed : Bool
  bare : List Nat
def cutP (l : List Nat) : Prt :=
  { main := upA 69 l, sci := l.any (· == 69), exp := dnA 69 l, whole := upA 46 (upA 69 l), frac := dnA 46 (upA 69 l), pointed := (upA 69 l).any (· == 46), bare := pln (upA 46 (upA 69 l)) }
/-- A digit above 0. -/
def ab (c : Nat) : Bool := decide (49 ≤ c) && decide (c ≤ 57)
def cntd (n : Prt) : Bool := n.main.any a64
def er1 (n : Prt) : Nat := if n.sci then (if (expT n.exp).isEmpty || !((expT n.exp).dropWhile z48).isEmpty then 4 else if 9 < (expT n.exp).length then 8 else 0) else 0
def er2 (n : Prt) : Nat := if !(n.main.dropWhile okB).isEmpty || n.frac.any (· == 46) || (n.pointed && n.frac.isEmpty) then 4 else 0
def er3 (n : Prt) : Nat := if n.frac.any (· == 44) || decide (n.whole.head? = some 44) || decide (n.whole.getLast? = some 44) || dblC n.whole then 5 else 0
def er4 (n : Prt) : Nat := if n.whole.isEmpty && n.frac.isEmpty then 4 else 0
def er5 (n : Prt) : Nat := if !cntd n then 0 else if n.pointed || n.whole.any dg then 6 else if !rowsZ h35 a64 h35 n.bare then 4 else 0
def er6 (n : Prt) : Nat := if !cntd n && !(((n.bare.dropWhile h35).dropWhile dg).isEmpty && ((n.frac.dropWhile dg).dropWhile h35).isEmpty) then 4 else 0
def er7 (n : Prt) : Nat := if n.main.any ab && (n.frac.any h35 || n.sci) then 6 else 0
def er8 (n : Prt) : Nat := if n.sci && (n.whole.any (· == 44) || (cntd n && decide (n.whole.head? = some 35))) then 6 else 0
/-- Without # at its end. -/
def trR (l : List Nat) : List Nat := (l.reverse.dropWhile h35).reverse
def patP (n : Prt) : NF :=
  if cntd n then { minSig := n.bare.countP a64, maxSig := (n.bare.dropWhile h35).length, prim := primZ (spl n.whole 0), sec := secZ (spl n.whole 0), sci := n.sci, minExp := n.exp.countP z48, plus := decide (n.exp.head? = some 43) }
  else { minInt := (n.bare.dropWhile h35).length, maxInt := if n.sci then n.whole.length else 0, minFrac := (trR n.frac).length, maxFrac := n.frac.length, prim := primZ (spl n.whole 0), sec := secZ (spl n.whole 0), inc := incZ (n.bare ++ n.frac), sci := n.sci, minExp := n.exp.countP z48, plus := decide (n.exp.head? = some 43) }
/-- All that is counted. -/
def cntN (p : NF) : List Nat := [p.minInt, p.maxInt, p.minFrac, p.maxFrac, p.minSig, p.maxSig, p.prim, p.sec, p.inc.length, p.minExp]
def er9 (n : Prt) : Nat := if (cntN (patP n)).any (fun k => decide (40 < k)) then 8 else 0
def fstE : List Nat → Nat
  | [] => 0
  | e :: t => if e = 0 then fstE t else e
def stp (n : Prt) : List Nat := [er1 n, er2 n, er3 n, er4 n, er5 n, er6 n, er7 n, er8 n, er9 n]
/-- What the program answers. -/
def prgZ (l : List Nat) : NF × Nat := if fstE (stp (cutP l)) = 0 then (patP (cutP l), 0) else ({}, fstE (stp (cutP l)))
theorem dw_all {A : Nat → Bool} (l : List Nat) : (l.dropWhile A).isEmpty = l.all A := by
  induction l with
  | nil => rfl
  | cons x t ih =>
    rw [List.dropWhile_cons, List.all_cons]
    cases A x
    · rfl
    · rw [if_pos rfl, ih]; rfl
theorem er1_exp (n : Prt) : er1 n = if n.sci then (expZ n.exp).1 else 0 := by
  unfold er1
  congr 1
  rw [dw_all]
  unfold expZ
  repeat' split
  all_goals rfl
theorem pln_any {A : Nat → Bool} (h : A 44 = false) (l : List Nat) : (pln l).any A = l.any A := by
  induction l with
  | nil => rfl
  | cons c t ih =>
    by_cases hc : c = 44
    · subst hc; rw [pln_comma, ih, List.any_cons, h, Bool.false_or]
    · rw [pln_cons_ne hc, List.any_cons, List.any_cons, ih]
theorem main_any {A : Nat → Bool} (h : A 46 = false) (l : List Nat) : l.any A = ((upA 46 l).any A || (dnA 46 l).any A) := by
  cases hp : l.any (· == 46)
  · rw [cut_none hp, dnA_none hp, List.any_nil, Bool.or_false]
  · obtain ⟨d, t, hdt⟩ : ∃ d t, l.dropWhile (· != 46) = d :: t := by
      cases hd : l.dropWhile (· != 46) with
      | nil =>
        obtain ⟨x, hx, hx2⟩ := List.any_eq_true.1 hp
        have h1 : (l.dropWhile (· != 46)).isEmpty = true := by rw [hd]; rfl
        rw [dw_all] at h1
        have := List.all_eq_true.1 h1 x hx
        rw [bne, hx2] at this
        cases this
      | cons d t => exact ⟨d, t, rfl⟩
    have hd : d = 46 := by
      have := drop_head (A := (· != 46)) l d (by rw [hdt]; rfl)
      simpa using this
    subst hd
    conv => lhs; rw [← List.takeWhile_append_dropWhile (p := (· != 46)) (l := l), hdt, List.any_append, List.any_cons, h, Bool.false_or]
    rw [upA, dnA, hdt]; rfl
theorem spl_any (W : List Nat) : ∀ k, (spl W k).any (· == 0) = ((k == 0 && (W.isEmpty || decide (W.head? = some 44))) || dblC W || decide (W.getLast? = some 44)) := by
  induction W with
  | nil => intro k; simp [spl, dblC]
  | cons c t ih =>
    intro k
    by_cases hc : c = 44
    · subst hc
      rw [spl, if_pos rfl, List.any_cons, ih]
      cases t with
      | nil => simp [dblC]
      | cons b t' =>
        have e : dblC (44 :: b :: t') = ((b == 44) || dblC (b :: t')) := by rw [dblC]; rfl
        rw [e, List.getLast?_cons_cons]
        simp only [List.isEmpty_cons, List.head?_cons, Bool.false_or, Option.some.injEq, decide_true, Bool.or_true, Bool.and_true, beq_self_eq_true, Bool.true_and]
        rw [show decide (b = 44) = (b == 44) from rfl]
        simp only [Bool.or_assoc]
    · rw [spl, if_neg hc, ih]
      have h1 : (k + 1 == 0) = false := rfl
      have h2 : decide (some c = some 44) = false := by simp [hc]
      rw [h1, List.isEmpty_cons, List.head?_cons, h2]
      cases t with
      | nil => simp [dblC, hc]
      | cons b t' =>
        have e : dblC (c :: b :: t') = dblC (b :: t') := by rw [dblC, show (c == 44) = false by simpa using hc]; rfl
        rw [e, List.getLast?_cons_cons]
        simp only [Bool.false_and, Bool.false_or, Bool.or_false, Bool.and_false]
theorem spl_more (W : List Nat) : ∀ k, decide (1 < (spl W k).length) = W.any (· == 44) := by
  induction W with
  | nil => intro k; rfl
  | cons c t ih =>
    intro k
    by_cases hc : c = 44
    · subst hc
      have := spl_pos t 0
      rw [spl, if_pos rfl, List.length_cons, List.any_cons]
      rw [decide_eq_true (by omega)]; rfl
    · rw [spl, if_neg hc, ih, List.any_cons, show (c == 44) = false by simpa using hc, Bool.false_or]
theorem dbl_any (W : List Nat) : dblC W = true → W.any (· == 44) = true := by
  induction W with
  | nil => intro h; cases h
  | cons c t ih =>
    cases t with
    | nil => intro h; cases h
    | cons b t' =>
      intro h
      rw [dblC, Bool.or_eq_true] at h
      rw [List.any_cons, Bool.or_eq_true]
      rcases h with h | h
      · rw [Bool.and_eq_true] at h; exact .inl h.1
      · exact .inr (ih h)
theorem mem_44 {W : List Nat} (h : 44 ∈ W) : W.any (· == 44) = true := List.any_eq_true.2 ⟨44, h, rfl⟩
theorem spl_zero (W : List Nat) : (decide (1 < (spl W 0).length) && (spl W 0).any (· == 0)) = (decide (W.head? = some 44) || decide (W.getLast? = some 44) || dblC W) := by
  rw [spl_more, spl_any]
  cases ha : W.any (· == 44)
  · rw [Bool.false_and]
    have h1 : dblC W = false := by
      cases e : dblC W
      · rfl
      · rw [dbl_any W e] at ha; cases ha
    have h2 : ¬ W.head? = some 44 := fun e => by rw [mem_44 (List.mem_of_head? e)] at ha; cases ha
    have h3 : ¬ W.getLast? = some 44 := fun e => by rw [mem_44 (List.mem_of_getLast? e)] at ha; cases ha
    rw [h1, decide_eq_false h2, decide_eq_false h3]; rfl
  · rw [Bool.true_and]
    have : W.isEmpty = false := by cases W with
      | nil => cases ha
      | cons => rfl
    rw [this, Bool.false_or]
    simp only [beq_self_eq_true, Bool.true_and]
    rw [Bool.or_assoc, Bool.or_assoc, Bool.or_comm (dblC W)]
theorem pln_empty {W : List Nat} (h : decide (W.head? = some 44) = false) : (pln W).isEmpty = W.isEmpty := by
  cases W with
  | nil => rfl
  | cons c t =>
    have hc : c ≠ 44 := by simpa using h
    rw [pln_cons_ne hc]; rfl
theorem pln_none {W : List Nat} (h : W.any (· == 44) = false) : pln W = W := by
  unfold pln
  refine List.filter_eq_self.2 fun x hx => ?_
  have := List.any_eq_false.1 h x hx
  simpa using this
theorem count_rows {A B : Nat → Bool} {l : List Nat} (hBA : ∀ c, B c = true → A c = false) (h : ((l.dropWhile B).dropWhile A).isEmpty = true) : l.countP A = (l.dropWhile B).length := by
  rw [dw_all] at h
  rw [countP_drop hBA]
  exact count_all (List.all_eq_true.1 h)
theorem trR_rows {l : List Nat} (h : ((l.dropWhile dg).dropWhile h35).isEmpty = true) : (trR l).length = l.countP dg := by
  rw [dw_all] at h
  have hd : (l.dropWhile dg).reverse.dropWhile h35 = [] := dw_nil fun x hx => List.all_eq_true.1 h x (List.mem_reverse.1 hx)
  have hall : ∀ x ∈ l.takeWhile dg, dg x = true := List.all_eq_true.1 List.all_takeWhile
  have e : trR l = l.takeWhile dg := by
    unfold trR
    conv => lhs; rw [← List.takeWhile_append_dropWhile (p := dg) (l := l), List.reverse_append, dw_app fun x hx => List.all_eq_true.1 h x (List.mem_reverse.1 hx)]
    rw [dw_head, List.reverse_reverse]
    intro c hc
    exact (dg_h35 (hall c (List.mem_reverse.1 (List.mem_of_head? hc)))).1
  rw [e]
  conv => rhs; rw [← List.takeWhile_append_dropWhile (p := dg) (l := l), List.countP_append]
  rw [count_all hall, count_none fun x hx => ?_, Nat.add_zero]
  have := List.all_eq_true.1 h x hx
  cases hdx : dg x
  · rfl
  · rw [(dg_h35 hdx).1] at this; cases this
theorem rows_dd {A B : Nat → Bool} (l : List Nat) : rowsZ A B B l = ((l.dropWhile A).dropWhile B).isEmpty := by
  unfold rowsZ
  rw [dw_head]
  exact drop_head _
theorem inc_ab {l : List Nat} (h : ∀ c ∈ l, h35 c = true ∨ dg c = true) : (!(incZ l).isEmpty) = l.any ab := by
  unfold incZ
  rw [dw_all, List.all_filter]
  induction l with
  | nil => rfl
  | cons c t ih =>
    rw [List.any_cons, List.all_cons, Bool.not_and, ih fun x hx => h x (List.mem_cons_of_mem _ hx)]
    congr 1
    rcases h c (List.mem_cons_self ..) with h1 | h1
    · have : c = 35 := by simpa [h35] using h1
      subst this; rfl
    · have h2 := (dg_h35 h1).1
      rw [h2]
      simp only [dg, Bool.and_eq_true, decide_eq_true_iff] at h1
      by_cases h3 : c = 48
      · subst h3; rfl
      · have : ab c = true := by simp only [ab, Bool.and_eq_true, decide_eq_true_iff]; omega
        rw [this]
        simp [z48, h3]
/-- The program's answer off the errors that are left. -/
def resE (n : Prt) (es : List Nat) : NF × Nat := if fstE es = 0 then (patP n, 0) else ({}, fstE es)
theorem res_zero (n : Prt) {e : Nat} (h : e = 0) (t : List Nat) : resE n (e :: t) = resE n t := by
  subst h; rfl
theorem res_err (n : Prt) {e k : Nat} (h : e = k + 1) (t : List Nat) : resE n (e :: t) = ({}, k + 1) := by
  subst h; rfl
theorem h35_iff {x : Nat} : h35 x = true ↔ x = 35 := by simp [h35]
theorem body_num (n : Prt) (hw : n.whole = upA 46 n.main) (hf : n.frac = dnA 46 n.main) (hp : n.pointed = n.main.any (· == 46)) (hb : n.bare = pln n.whole) (hme : n.exp.countP z48 ≤ 9) :
    numB n.main n.sci (n.exp.countP z48) (decide (n.exp.head? = some 43)) = resE n [er2 n, er3 n, er4 n, er5 n, er6 n, er7 n, er8 n, er9 n] := by
  have hcm : cntd n = (n.bare ++ n.frac).any a64 := by
    unfold cntd
    rw [main_any (show a64 46 = false from rfl), ← hw, ← hf, List.any_append, hb, pln_any (show a64 44 = false from rfl)]
  unfold numB
  cases ho : n.main.all okB
  · rw [res_err n (k := 3) (by unfold er2; rw [dw_all, ho]; rfl)]; rfl
  · rw [if_neg (by decide), ← hw, ← hf, ← hp]
    unfold numW
    rw [← hb]
    cases h2 : (n.frac.any (· == 46) || (n.pointed && n.frac.isEmpty))
    · rw [if_neg (by decide), res_zero n (by unfold er2; rw [dw_all, ho, Bool.not_true, Bool.false_or, h2]; rfl)]
      cases h3 : n.frac.any (· == 44)
      · rw [if_neg (by decide), spl_zero]
        have h3e : er3 n = if (decide (n.whole.head? = some 44) || decide (n.whole.getLast? = some 44) || dblC n.whole) = true then 5 else 0 := by
          unfold er3; rw [h3, Bool.false_or]
        cases h3' : (decide (n.whole.head? = some 44) || decide (n.whole.getLast? = some 44) || dblC n.whole)
        · rw [h3'] at h3e
          rw [if_neg (by decide), res_zero n h3e]
          have hhd : decide (n.whole.head? = some 44) = false := by
            simp only [Bool.or_eq_false_iff] at h3'
            exact h3'.1.1
          have he : (n.bare ++ n.frac).isEmpty = (n.whole.isEmpty && n.frac.isEmpty) := by
            rw [show (n.bare ++ n.frac).isEmpty = (n.bare.isEmpty && n.frac.isEmpty) by cases n.bare <;> rfl, hb, pln_empty hhd]
          rw [he]
          cases h4 : (n.whole.isEmpty && n.frac.isEmpty)
          · rw [if_neg (by decide), res_zero n (by unfold er4; rw [h4]; rfl)]
            unfold numP
            rw [← hcm]
            have hdw : n.bare.any dg = n.whole.any dg := by rw [hb, pln_any (show dg 44 = false from rfl)]
            cases hc : cntd n
            · rw [if_neg (by decide), res_zero n (by unfold er5; rw [hc]; rfl), rows_dd, rows_dd]
              have h6e : er6 n = if (!((n.bare.dropWhile h35).dropWhile dg).isEmpty || !((n.frac.dropWhile dg).dropWhile h35).isEmpty) = true then 4 else 0 := by
                unfold er6; rw [hc, Bool.not_and]; rfl
              cases h6 : (!((n.bare.dropWhile h35).dropWhile dg).isEmpty || !((n.frac.dropWhile dg).dropWhile h35).isEmpty)
              · rw [h6] at h6e
                rw [if_neg (by decide), res_zero n h6e]
                simp only [Bool.or_eq_false_iff, Bool.not_eq_false'] at h6
                have hm1 : ∀ c ∈ n.bare, h35 c = true ∨ dg c = true := fun c hc => by
                  rcases rows_mem (by rw [rows_dd]; exact h6.1) c hc with h | h | h
                  · exact .inl h
                  · exact .inr h
                  · exact .inr h
                have hm2 : ∀ c ∈ n.frac, h35 c = true ∨ dg c = true := fun c hc => by
                  rcases rows_mem (by rw [rows_dd]; exact h6.2) c hc with h | h | h
                  · exact .inr h
                  · exact .inl h
                  · exact .inl h
                have hab : (!(incZ (n.bare ++ n.frac)).isEmpty) = n.main.any ab := by
                  rw [inc_ab fun c hc => (List.mem_append.1 hc).elim (hm1 c) (hm2 c), List.any_append, hb, pln_any (show ab 44 = false from rfl), main_any (show ab 46 = false from rfl) n.main, ← hw, ← hf]
                have hfr : decide (n.frac.countP dg < n.frac.length) = n.frac.any h35 := by
                  cases hx : n.frac.any h35
                  · have := count_all (A := dg) (l := n.frac) fun c hc => (hm2 c hc).resolve_left fun e => by
                      have := List.any_eq_false.1 hx c hc
                      exact this e
                    exact decide_eq_false (by omega)
                  · obtain ⟨c, hc, hc2⟩ := List.any_eq_true.1 hx
                    refine decide_eq_true (Nat.lt_of_le_of_ne List.countP_le_length fun e => ?_)
                    have := List.countP_eq_length.1 e c hc
                    rw [(dg_h35 this).1] at hc2
                    cases hc2
                rw [hab, hfr]
                cases h7 : (n.main.any ab && (n.frac.any h35 || n.sci))
                · rw [if_neg (by decide), res_zero n (by unfold er7; rw [h7]; rfl), spl_more]
                  have h8e : er8 n = if (n.sci && n.whole.any (· == 44)) = true then 6 else 0 := by
                    unfold er8; rw [hc, Bool.false_and, Bool.or_false]
                  unfold finN
                  cases h8 : (n.sci && n.whole.any (· == 44))
                  · rw [h8] at h8e
                    rw [if_neg (by decide), res_zero n h8e]
                    have hpat : patP n = digN n.bare n.frac (spl n.whole 0) n.sci (n.exp.countP z48) (decide (n.exp.head? = some 43)) := by
                      unfold patP digN
                      rw [hc, if_neg (by decide), trR_rows h6.2, count_rows (fun c h => by rw [h35_iff] at h; subst h; rfl) h6.1]
                      congr 1
                      cases hs : n.sci
                      · rfl
                      · rw [hs, Bool.true_and] at h8
                        rw [hb, pln_none h8]
                    have h9 : (cntN (patP n)).any (fun k => decide (40 < k)) = bigN (patP n) := by
                      have h1 : (patP n).minFrac ≤ (patP n).maxFrac := by rw [hpat]; exact List.countP_le_length
                      have h2 : (patP n).minSig = 0 ∧ (patP n).maxSig = 0 := by rw [hpat]; exact ⟨rfl, rfl⟩
                      have h3 : (patP n).minExp ≤ 9 := by rw [hpat]; exact hme
                      unfold cntN bigN
                      simp only [List.any_cons, List.any_nil, Bool.or_false]
                      rw [decide_eq_false (show ¬ 40 < (patP n).minExp by omega), h2.1, h2.2]
                      by_cases h : 40 < (patP n).maxFrac
                      · rw [decide_eq_true h]; simp
                      · rw [decide_eq_false h, decide_eq_false (show ¬ 40 < (patP n).minFrac by omega)]
                        simp only [Bool.or_false, Bool.or_assoc, Bool.false_or, Nat.not_lt_zero, decide_false]
                    rw [← hpat, ← h9]
                    cases h9' : (cntN (patP n)).any (fun k => decide (40 < k))
                    · rw [if_neg (by decide), res_zero n (by unfold er9; rw [h9']; rfl)]; rfl
                    · rw [if_pos rfl, res_err n (k := 7) (by unfold er9; rw [h9']; rfl)]
                  · rw [h8] at h8e
                    rw [if_pos rfl, res_err n (k := 5) h8e]
                · rw [if_pos rfl, res_err n (k := 5) (by unfold er7; rw [h7]; rfl)]
              · rw [h6] at h6e
                rw [if_pos rfl, res_err n (k := 3) h6e]
            · rw [if_pos rfl, hdw]
              cases h5 : (n.pointed || n.whole.any dg)
              · rw [if_neg (by decide)]
                have h5e : er5 n = if (!rowsZ h35 a64 h35 n.bare) = true then 4 else 0 := by
                  unfold er5; rw [hc, h5]; rfl
                cases h5' : rowsZ h35 a64 h35 n.bare
                · rw [h5'] at h5e
                  rw [if_pos (by rfl), res_err n (k := 3) h5e]
                · rw [h5'] at h5e
                  rw [if_neg (by decide), res_zero n h5e, res_zero n (by unfold er6; rw [hc]; rfl)]
                  simp only [Bool.or_eq_false_iff] at h5
                  have hfn : n.frac = [] := by rw [hf]; exact dnA_none (by rw [← hp]; exact h5.1)
                  have hnab : n.main.any ab = false := by
                    rw [main_any (show ab 46 = false from rfl), ← hw, ← hf, hfn, List.any_nil, Bool.or_false]
                    refine any_false fun c hc => ?_
                    have := List.any_eq_false.1 h5.2 c hc
                    cases e : ab c
                    · rfl
                    · refine absurd ?_ this
                      simp only [ab, dg, Bool.and_eq_true, decide_eq_true_iff] at e ⊢
                      omega
                  rw [res_zero n (by unfold er7; rw [hnab]; rfl), spl_more]
                  have h8e : er8 n = if (n.sci && (n.whole.any (· == 44) || decide (n.bare.head? = some 35))) = true then 6 else 0 := by
                    unfold er8
                    rw [hc, Bool.true_and]
                    cases hx : n.whole.any (· == 44)
                    · rw [hb, pln_none hx]
                    · rw [Bool.true_or, Bool.true_or]
                  unfold finN
                  cases h8 : (n.sci && (n.whole.any (· == 44) || decide (n.bare.head? = some 35)))
                  · rw [h8] at h8e
                    rw [if_neg (by decide), res_zero n h8e]
                    have hpat : patP n = sigN n.bare (spl n.whole 0) n.sci (n.exp.countP z48) (decide (n.exp.head? = some 43)) := by
                      unfold patP sigN
                      rw [hc, if_pos rfl]
                    have h9 : (cntN (patP n)).any (fun k => decide (40 < k)) = bigN (patP n) := by
                      have h1 : (patP n).minSig ≤ (patP n).maxSig := by
                        rw [hpat]
                        show n.bare.countP a64 ≤ (n.bare.dropWhile h35).length
                        rw [countP_drop h35_a64]
                        exact List.countP_le_length
                      have h2 : (patP n).minFrac = 0 := by rw [hpat]; rfl
                      have h3 : (patP n).minExp ≤ 9 := by rw [hpat]; exact hme
                      unfold cntN bigN
                      simp only [List.any_cons, List.any_nil, Bool.or_false]
                      rw [decide_eq_false (show ¬ 40 < (patP n).minExp by omega), h2]
                      by_cases h : 40 < (patP n).maxSig
                      · rw [decide_eq_true h]; simp
                      · rw [decide_eq_false h, decide_eq_false (show ¬ 40 < (patP n).minSig by omega)]
                        simp only [Bool.or_false, Bool.or_assoc, Bool.false_or, Nat.not_lt_zero, decide_false]
                    rw [← hpat, ← h9]
                    cases h9' : (cntN (patP n)).any (fun k => decide (40 < k))
                    · rw [if_neg (by decide), res_zero n (by unfold er9; rw [h9']; rfl)]; rfl
                    · rw [if_pos rfl, res_err n (k := 7) (by unfold er9; rw [h9']; rfl)]
                  · rw [h8] at h8e
                    rw [if_pos rfl, res_err n (k := 5) h8e]
              · rw [if_pos rfl, res_err n (k := 5) (by unfold er5; rw [hc, h5]; rfl)]
          · rw [if_pos rfl, res_err n (k := 3) (by unfold er4; rw [h4]; rfl)]
        · rw [h3'] at h3e
          rw [if_pos rfl, res_err n (k := 4) h3e]
      · rw [if_pos rfl, res_err n (k := 4) (by unfold er3; rw [h3]; rfl)]
    · rw [if_pos rfl, res_err n (k := 3) (by unfold er2; rw [dw_all, ho, Bool.not_true, Bool.false_or, h2]; rfl)]
/-- The program's answer is the document's. -/
theorem prg_num (l : List Nat) : prgZ l = numZ l := by
  show resE (cutP l) (er1 (cutP l) :: _) = _
  have h1 := er1_exp (cutP l)
  unfold numZ
  cases hs : l.any (· == 69)
  · have hsci : (cutP l).sci = false := hs
    have hexp : (cutP l).exp = [] := dnA_none hs
    rw [hsci, if_neg (by decide)] at h1
    rw [res_zero _ h1, if_neg (by decide)]
    have hB := body_num (cutP l) rfl rfl rfl rfl (by rw [hexp]; decide)
    rw [hexp, hsci] at hB
    exact hB.symm
  · have hsci : (cutP l).sci = true := hs
    have hexp : (cutP l).exp = dnA 69 l := rfl
    rw [hsci, if_pos rfl, hexp] at h1
    rw [if_pos rfl]
    by_cases he : (expZ (dnA 69 l)).1 = 0
    · rw [if_neg (fun h => h he)]
      rw [he] at h1
      rw [res_zero _ h1]
      have hx : (expZ (dnA 69 l)).2.1 = (dnA 69 l).countP z48 ∧ (expZ (dnA 69 l)).2.2 = decide ((dnA 69 l).head? = some 43) := by
        unfold expZ at he ⊢
        split at he
        · cases he
        · rename_i h3
          split at he
          · cases he
          · rename_i h4
            rw [if_neg h3, if_neg h4]
            refine ⟨?_, rfl⟩
            simp only [Bool.or_eq_true, Bool.not_eq_true', not_or, Bool.not_eq_false] at h3
            have hall := List.all_eq_true.1 h3.2
            show (expT (dnA 69 l)).length = _
            unfold expT at hall ⊢
            by_cases hh : (dnA 69 l).head? = some 43
            · rw [if_pos hh] at hall ⊢
              cases hd : dnA 69 l with
              | nil => rfl
              | cons c t =>
                rw [hd] at hh hall
                rw [List.head?_cons] at hh
                cases hh
                rw [List.drop_succ_cons, List.drop_zero] at hall ⊢
                rw [List.countP_cons_of_neg (by decide), count_all hall]
            · rw [if_neg hh, List.drop_zero] at hall ⊢
              rw [count_all hall]
      have h9 := (expZ_ok he).2
      have hB := body_num (cutP l) rfl rfl rfl rfl (by rw [hexp, ← hx.1]; exact h9)
      rw [hexp, hsci, ← hx.1, ← hx.2] at hB
      exact hB.symm
    · rw [if_pos he]
      obtain ⟨k, hk⟩ : ∃ k, (expZ (dnA 69 l)).1 = k + 1 := ⟨(expZ (dnA 69 l)).1 - 1, by omega⟩
      rw [hk] at h1 ⊢
      exact res_err _ h1 _
end Go.Proofs.YtogipbgfnjbakaaDoor
