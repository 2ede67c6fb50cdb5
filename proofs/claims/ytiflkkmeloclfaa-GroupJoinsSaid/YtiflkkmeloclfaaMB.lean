/-
  MB: TA, TB, TC, TD, TE, TF, VA, VB.
-/
import Derived.Laws.AppendOwnNone
import Derived.Laws.Cover4
import Derived.Handy
import Derived.Test.YtiflkkmeloclfaaMA
/- TA -/
/-
  TA: a pattern's tokens, plain.
-/
set_option maxRecDepth 100000
namespace Go.Proofs.Ytiflkkmeloclfaa
/-- A token: a code point, whether it is quoted, where it stands. -/
abbrev Tok := Int × Bool × Int
/-- A token but for its place. -/
def er (t : Tok) : Int × Bool := (t.1, t.2.1)
/-- The tokens of code points, the first one at a, o: where quotes stand open (else -1); and where they stand open at the end. -/
def scn : List Nat → Nat → Int → List Tok × Int
  | [], _, o => ([], o)
  | [c], a, o => if c = 39 then ([], if o < 0 then (a : Int) else -1) else ([((c : Int), decide (0 ≤ o), (a : Int))], o)
  | c :: d :: cs, a, o =>
    if c = 39 ∧ d = 39 then ((39, true, (a : Int)) :: (scn cs (a + 2) o).1, (scn cs (a + 2) o).2)
    else if c = 39 then scn (d :: cs) (a + 1) (if o < 0 then (a : Int) else -1)
    else (((c : Int), decide (0 ≤ o), (a : Int)) :: (scn (d :: cs) (a + (encN c).length) o).1, (scn (d :: cs) (a + (encN c).length) o).2)
theorem scn_nil (a : Nat) (o : Int) : scn [] a o = ([], o) := rfl
theorem scn_two (cs : List Nat) (a : Nat) (o : Int) : scn (39 :: 39 :: cs) a o = ((39, true, (a : Int)) :: (scn cs (a + 2) o).1, (scn cs (a + 2) o).2) := by
  simp [scn]
theorem scn_one {cs : List Nat} (h : cs.head? ≠ some 39) (a : Nat) (o : Int) : scn (39 :: cs) a o = scn cs (a + 1) (if o < 0 then (a : Int) else -1) := by
  cases cs with
  | nil => simp [scn]
  | cons d cs =>
    have hd : d ≠ 39 := fun e => h (by rw [e]; rfl)
    rw [scn, if_neg (fun e => hd e.2), if_pos rfl]
theorem scn_else {c : Nat} (h : c ≠ 39) (cs : List Nat) (a : Nat) (o : Int) :
    scn (c :: cs) a o = (((c : Int), decide (0 ≤ o), (a : Int)) :: (scn cs (a + (encN c).length) o).1, (scn cs (a + (encN c).length) o).2) := by
  cases cs with
  | nil => simp [scn, h]
  | cons d cs => rw [scn, if_neg (fun e => h e.1), if_neg h]
theorem tok_ind {P : List Nat → Prop} (h0 : P []) (h2 : ∀ cs, P cs → P (39 :: 39 :: cs)) (h1 : ∀ cs, cs.head? ≠ some 39 → P cs → P (39 :: cs)) (he : ∀ c cs, c ≠ 39 → P cs → P (c :: cs)) (cs : List Nat) : P cs := by
  have hgen : ∀ (n : Nat) (cs : List Nat), cs.length ≤ n → P cs := by
    intro n
    induction n with
    | zero => intro cs h; rw [List.eq_nil_of_length_eq_zero (by omega : cs.length = 0)]; exact h0
    | succ n ih =>
      intro cs h
      cases cs with
      | nil => exact h0
      | cons c cs =>
        simp only [List.length_cons] at h
        by_cases hc : c = 39
        · subst hc
          cases cs with
          | nil => exact h1 [] (by simp) h0
          | cons d cs =>
            simp only [List.length_cons] at h
            by_cases hd : d = 39
            · subst hd; exact h2 cs (ih cs (by omega))
            · exact h1 (d :: cs) (by simp [hd]) (ih _ (by simp only [List.length_cons]; omega))
        · exact he c cs hc (ih cs (by omega))
  exact hgen _ cs (Nat.le_refl _)
theorem scn_len (cs : List Nat) : ∀ (a : Nat) (o : Int), (scn cs a o).1.length ≤ cs.length := by
  induction cs using tok_ind with
  | h0 => intro a o; simp [scn_nil]
  | h2 cs ih => intro a o; rw [scn_two]; have := ih (a + 2) o; simp only [List.length_cons]; omega
  | h1 cs h ih => intro a o; rw [scn_one h]; have := ih (a + 1) (if o < 0 then (a : Int) else -1); simp only [List.length_cons]; omega
  | he c cs h ih => intro a o; rw [scn_else h]; have := ih (a + (encN c).length) o; simp only [List.length_cons]; omega
/-- Where quotes stand open, and where tokens stand: within the text. -/
theorem scn_range (cs : List Nat) : ∀ (a : Nat) (o : Int), -1 ≤ o → o ≤ (a : Int) + (encs cs).length →
    (-1 ≤ (scn cs a o).2 ∧ (scn cs a o).2 ≤ (a : Int) + (encs cs).length) ∧ ∀ t ∈ (scn cs a o).1, 0 ≤ t.2.2 ∧ t.2.2 ≤ (a : Int) + (encs cs).length := by
  induction cs using tok_ind with
  | h0 => intro a o h h'; exact ⟨⟨h, h'⟩, by simp [scn_nil]⟩
  | h2 cs ih =>
    intro a o h h'
    have e : (encs (39 :: 39 :: cs)).length = 2 + (encs cs).length := by
      rw [encs_cons, encs_cons, List.length_append, List.length_append]
      show 1 + (1 + _) = _
      omega
    rw [e] at h' ⊢
    rw [scn_two]
    obtain ⟨i1, i2⟩ := ih (a + 2) o h (by omega)
    refine ⟨⟨i1.1, by have := i1.2; omega⟩, ?_⟩
    intro t ht
    rcases List.mem_cons.1 ht with rfl | ht
    · refine ⟨?_, ?_⟩ <;> dsimp only <;> omega
    · have := i2 t ht; omega
  | h1 cs hh ih =>
    intro a o h h'
    have e : (encs (39 :: cs)).length = 1 + (encs cs).length := by
      rw [encs_cons, List.length_append]
      rfl
    rw [e] at h' ⊢
    rw [scn_one hh]
    obtain ⟨i1, i2⟩ := ih (a + 1) (if o < 0 then (a : Int) else -1) (by split <;> omega) (by split <;> omega)
    refine ⟨⟨i1.1, by have := i1.2; omega⟩, ?_⟩
    intro t ht
    have := i2 t ht; omega
  | he c cs hc ih =>
    intro a o h h'
    have e : (encs (c :: cs)).length = (encN c).length + (encs cs).length := by rw [encs_cons, List.length_append]
    rw [e] at h' ⊢
    rw [scn_else hc]
    obtain ⟨i1, i2⟩ := ih (a + (encN c).length) o h (by omega)
    refine ⟨⟨i1.1, by have := i1.2; omega⟩, ?_⟩
    intro t ht
    rcases List.mem_cons.1 ht with rfl | ht
    · refine ⟨?_, ?_⟩ <;> dsimp only <;> omega
    · have := i2 t ht; omega
/-- A token that may be handed to Print. -/
def mayT (t : Tok) : Bool := isZ t.1 && (t.2.1 || !decide (t.1 = 39))
theorem scn_may (cs : List Nat) : ∀ (a : Nat) (o : Int), allC cs = true → (scn cs a o).1.all mayT = true := by
  induction cs using tok_ind with
  | h0 => intro a o _; rfl
  | h2 cs ih =>
    intro a o h
    rw [scn_two, List.all_cons, ih _ _ (allC_cons.1 (allC_cons.1 h).2).2]
    rfl
  | h1 cs hh ih => intro a o h; rw [scn_one hh]; exact ih _ _ (allC_cons.1 h).2
  | he c cs hc ih =>
    intro a o h
    obtain ⟨h1, h2⟩ := allC_cons.1 h
    rw [scn_else hc, List.all_cons, ih _ _ h2, Bool.and_true]
    simp only [mayT, isZ_nat, h1, Bool.true_and, Bool.or_eq_true, Bool.not_eq_true', decide_eq_false_iff_not]
    exact .inr (by omega)
/-- But for places it makes no difference where a text stands. -/
theorem scn_same (cs : List Nat) : ∀ (a a' : Nat) (o o' : Int), (0 ≤ o ↔ 0 ≤ o') → (scn cs a o).1.map er = (scn cs a' o').1.map er ∧ (0 ≤ (scn cs a o).2 ↔ 0 ≤ (scn cs a' o').2) := by
  induction cs using tok_ind with
  | h0 => intro a a' o o' h; exact ⟨rfl, h⟩
  | h2 cs ih =>
    intro a a' o o' h
    obtain ⟨i1, i2⟩ := ih (a + 2) (a' + 2) o o' h
    rw [scn_two, scn_two]
    exact ⟨by rw [List.map_cons, List.map_cons, i1]; rfl, i2⟩
  | h1 cs hh ih =>
    intro a a' o o' h
    rw [scn_one hh, scn_one hh]
    exact ih _ _ _ _ (by split <;> split <;> omega)
  | he c cs hc ih =>
    intro a a' o o' h
    obtain ⟨i1, i2⟩ := ih (a + (encN c).length) (a' + (encN c).length) o o' h
    rw [scn_else hc, scn_else hc]
    refine ⟨?_, i2⟩
    rw [List.map_cons, List.map_cons, i1]
    simp only [er, decide_eq_decide.2 h]
/-- Quoted code points, each ' twice. -/
def dbl (row : List Int) : List Int := row.flatMap fun r => if r = 39 then [39, 39] else [r]
theorem dbl_nil : dbl [] = [] := rfl
theorem dbl_cons (r : Int) (row : List Int) : dbl (r :: row) = (if r = 39 then [39, 39] else [r]) ++ dbl row := by simp [dbl]
theorem dbl_append (xs ys : List Int) : dbl (xs ++ ys) = dbl xs ++ dbl ys := by simp [dbl]
theorem dbl_one (r : Int) : dbl [r] = if r = 39 then [39, 39] else [r] := by rw [dbl_cons, dbl_nil, List.append_nil]
theorem dbl_len (row : List Int) : (dbl row).length ≤ 2 * row.length := by
  induction row with
  | nil => simp [dbl_nil]
  | cons r row ih => rw [dbl_cons, List.length_append]; simp only [List.length_cons]; split <;> simp <;> omega
/-- A row of quoted code points as it is written. -/
def inQ (row : List Int) : List Int := if row.all (fun r => decide (r = 39)) then dbl row else 39 :: (dbl row ++ [39])
theorem inQ_len (row : List Int) : (inQ row).length ≤ 2 * row.length + 2 := by
  have := dbl_len row
  unfold inQ; split
  · omega
  · simp only [List.length_cons, List.length_append, List.length_nil]; omega
/-- Tokens as they are written, behind a row of quoted ones. -/
def prt : List Tok → List Int → List Int
  | [], row => inQ row
  | t :: ts, row => if t.2.1 then prt ts (row ++ [t.1]) else inQ row ++ t.1 :: prt ts []
theorem prt_nil (row : List Int) : prt [] row = inQ row := rfl
theorem prt_q {t : Tok} (h : t.2.1 = true) (ts : List Tok) (row : List Int) : prt (t :: ts) row = prt ts (row ++ [t.1]) := by rw [prt, if_pos h]
theorem prt_p {t : Tok} (h : t.2.1 = false) (ts : List Tok) (row : List Int) : prt (t :: ts) row = inQ row ++ t.1 :: prt ts [] := by rw [prt, if_neg (by rw [h]; decide)]
theorem prt_len (ts : List Tok) : ∀ row, (prt ts row).length ≤ 2 * row.length + 4 * ts.length + 2 := by
  induction ts with
  | nil => intro row; rw [prt_nil]; have := inQ_len row; simp only [List.length_nil]; omega
  | cons t ts ih =>
    intro row
    rcases ht : t.2.1 with _ | _
    · rw [prt_p ht]
      have := ih []
      have := inQ_len row
      simp only [List.length_cons, List.length_append, List.length_nil] at *; omega
    · rw [prt_q ht]
      have := ih (row ++ [t.1])
      simp only [List.length_cons, List.length_append, List.length_nil] at *; omega
theorem prt_er {ts : List Tok} : ∀ {ts' : List Tok} (row : List Int), ts.map er = ts'.map er → prt ts row = prt ts' row := by
  induction ts with
  | nil => intro ts' row h; cases ts' with
    | nil => rfl
    | cons t ts => cases h
  | cons t ts ih =>
    intro ts' row h
    cases ts' with
    | nil => cases h
    | cons t' ts' =>
      simp only [List.map_cons, List.cons.injEq, er, Prod.mk.injEq] at h
      obtain ⟨⟨h1, h2⟩, h3⟩ := h
      rcases ht : t.2.1 with _ | _
      · rw [prt_p ht, prt_p (h2 ▸ ht), h1, ih [] h3]
      · rw [prt_q ht, prt_q (h2 ▸ ht), h1, ih _ h3]
theorem may_er {ts : List Tok} : ∀ {ts' : List Tok}, ts.map er = ts'.map er → ts.all mayT = ts'.all mayT := by
  induction ts with
  | nil => intro ts' h; cases ts' with
    | nil => rfl
    | cons t ts => cases h
  | cons t ts ih =>
    intro ts' h
    cases ts' with
    | nil => cases h
    | cons t' ts' =>
      simp only [List.map_cons, List.cons.injEq, er, Prod.mk.injEq] at h
      obtain ⟨⟨h1, h2⟩, h3⟩ := h
      rw [List.all_cons, List.all_cons, ih h3, mayT, mayT, h1, h2]
theorem dbl_isZ (row : List Int) : (dbl row).all isZ = row.all isZ := by
  induction row with
  | nil => rfl
  | cons r row ih =>
    rw [dbl_cons, List.all_append, ih, List.all_cons]
    split
    · rename_i h; subst h; rfl
    · simp
theorem inQ_isZ (row : List Int) : (inQ row).all isZ = row.all isZ := by
  have h39 : isZ 39 = true := rfl
  unfold inQ; split
  · exact dbl_isZ row
  · rw [List.all_cons, List.all_append, dbl_isZ, h39]; simp [h39]
theorem prt_isZ (ts : List Tok) : ∀ row, (prt ts row).all isZ = (row.all isZ && ts.all fun t => isZ t.1) := by
  induction ts with
  | nil => intro row; rw [prt_nil, inQ_isZ]; simp
  | cons t ts ih =>
    intro row
    rcases ht : t.2.1 with _ | _
    · rw [prt_p ht, List.all_append, inQ_isZ, List.all_cons, ih, List.all_cons]; simp
    · rw [prt_q ht, ih, List.all_append, List.all_cons]; simp [Bool.and_assoc]
theorem may_isZ {ts : List Tok} (h : ts.all mayT = true) : (ts.all fun t => isZ t.1) = true := by
  refine List.all_eq_true.2 fun t ht => ?_
  have := List.all_eq_true.1 h t ht
  simp only [mayT, Bool.and_eq_true] at this
  exact this.1
theorem nats_cons (r : Int) (l : List Int) : nats (r :: l) = r.toNat :: nats l := rfl
theorem nats_append (xs ys : List Int) : nats (xs ++ ys) = nats xs ++ nats ys := by simp [nats]
theorem nats_nil : nats [] = [] := rfl
theorem isZ_39 {r : Int} (h : isZ r = true) : r.toNat = 39 ↔ r = 39 := by have := isZ_iff.1 h; omega
/-- Tokens and whether quotes are open, but for places. -/
def sck (cs : List Nat) (b : Bool) : List (Int × Bool) × Bool := ((scn cs 0 (if b then 0 else -1)).1.map er, decide (0 ≤ (scn cs 0 (if b then 0 else -1)).2))
theorem scn_sck (cs : List Nat) (a : Nat) (o : Int) : (scn cs a o).1.map er = (sck cs (decide (0 ≤ o))).1 ∧ decide (0 ≤ (scn cs a o).2) = (sck cs (decide (0 ≤ o))).2 := by
  have h : (0 ≤ o ↔ 0 ≤ (if decide (0 ≤ o) = true then (0 : Int) else -1)) := by
    by_cases h : 0 ≤ o
    · rw [decide_eq_true h]; simp [h]
    · rw [decide_eq_false h]; simp only [Bool.false_eq_true, if_false]; omega
  obtain ⟨h1, h2⟩ := scn_same cs a 0 o _ h
  exact ⟨h1, decide_eq_decide.2 h2⟩
theorem sck_nil (b : Bool) : sck [] b = ([], b) := by cases b <;> rfl
theorem sck_two (cs : List Nat) (b : Bool) : sck (39 :: 39 :: cs) b = ((39, true) :: (sck cs b).1, (sck cs b).2) := by
  obtain ⟨h1, h2⟩ := scn_sck cs (0 + 2) (if b then 0 else -1)
  have hb : decide (0 ≤ (if b then (0 : Int) else -1)) = b := by cases b <;> rfl
  rw [hb] at h1 h2
  rw [sck, scn_two, List.map_cons, h1, h2]; rfl
theorem sck_one {cs : List Nat} (h : cs.head? ≠ some 39) (b : Bool) : sck (39 :: cs) b = sck cs (!b) := by
  obtain ⟨h1, h2⟩ := scn_sck cs (0 + 1) (if (if b then (0 : Int) else -1) < 0 then ((0 : Nat) : Int) else -1)
  have hb : decide (0 ≤ (if (if b then (0 : Int) else -1) < 0 then ((0 : Nat) : Int) else -1)) = !b := by cases b <;> rfl
  rw [hb] at h1 h2
  rw [sck, scn_one h, h1, h2]
theorem sck_else {c : Nat} (h : c ≠ 39) (cs : List Nat) (b : Bool) : sck (c :: cs) b = (((c : Int), b) :: (sck cs b).1, (sck cs b).2) := by
  obtain ⟨h1, h2⟩ := scn_sck cs (0 + (encN c).length) (if b then 0 else -1)
  have hb : decide (0 ≤ (if b then (0 : Int) else -1)) = b := by cases b <;> rfl
  rw [hb] at h1 h2
  rw [sck, scn_else h, List.map_cons, h1, h2]
  simp only [er, hb]
theorem sck_within {row : List Int} (hz : row.all isZ = true) {rest : List Nat} (hr : rest.head? ≠ some 39) :
    sck (nats (dbl row) ++ 39 :: rest) true = (row.map (fun r => (r, true)) ++ (sck rest false).1, (sck rest false).2) := by
  induction row with
  | nil => rw [dbl_nil, nats_nil, List.nil_append, sck_one hr]; rfl
  | cons r row ih =>
    simp only [List.all_cons, Bool.and_eq_true] at hz
    rw [dbl_cons, nats_append, List.append_assoc]
    split
    · rename_i e; subst e
      show sck (39 :: 39 :: (nats (dbl row) ++ 39 :: rest)) true = _
      rw [sck_two, ih hz.2]; rfl
    · rename_i e
      show sck (r.toNat :: (nats (dbl row) ++ 39 :: rest)) true = _
      rw [sck_else (fun h => e ((isZ_39 hz.1).1 h)), ih hz.2]
      have := (isZ_iff.1 hz.1).1
      rw [Int.toNat_of_nonneg this]; rfl
theorem sck_row {row : List Int} (hz : row.all isZ = true) (hn : row.all (fun r => decide (r = 39)) = false) {rest : List Nat} (hr : rest.head? ≠ some 39) :
    sck (39 :: (nats (dbl row) ++ 39 :: rest)) false = (row.map (fun r => (r, true)) ++ (sck rest false).1, (sck rest false).2) := by
  induction row with
  | nil => cases hn
  | cons r row ih =>
    simp only [List.all_cons, Bool.and_eq_true] at hz
    rw [List.all_cons] at hn
    by_cases e : r = 39
    · subst e
      rw [dbl_cons, if_pos rfl, nats_append, List.append_assoc]
      show sck (39 :: 39 :: 39 :: (nats (dbl row) ++ 39 :: rest)) false = _
      rw [sck_two, ih hz.2 (by simpa using hn)]; rfl
    · rw [sck_one]
      · have h := sck_within (row := r :: row) (by simp [hz.1, hz.2]) hr
        exact h
      · rw [dbl_cons, if_neg e]
        show (some r.toNat : Option Nat) ≠ some 39
        intro h
        exact e ((isZ_39 hz.1).1 (Option.some.inj h))
theorem sck_all {row : List Int} (hn : row.all (fun r => decide (r = 39)) = true) (rest : List Nat) :
    sck (nats (dbl row) ++ rest) false = (row.map (fun r => (r, true)) ++ (sck rest false).1, (sck rest false).2) := by
  induction row with
  | nil => rfl
  | cons r row ih =>
    simp only [List.all_cons, Bool.and_eq_true, decide_eq_true_eq] at hn
    obtain ⟨rfl, h2⟩ := hn
    rw [dbl_cons, if_pos rfl, nats_append, List.append_assoc]
    show sck (39 :: 39 :: (nats (dbl row) ++ rest)) false = _
    rw [sck_two, ih h2]; rfl
theorem sck_inQ {row : List Int} (hz : row.all isZ = true) {rest : List Nat} (hr : rest.head? ≠ some 39) :
    sck (nats (inQ row) ++ rest) false = (row.map (fun r => (r, true)) ++ (sck rest false).1, (sck rest false).2) := by
  unfold inQ; split
  · rename_i h; exact sck_all h rest
  · rename_i h
    rw [nats_cons, nats_append, List.cons_append, List.append_assoc]
    exact sck_row hz (by simpa using h) hr
theorem sck_prt (ts : List Tok) : ∀ (row : List Int), row.all isZ = true → ts.all mayT = true → sck (nats (prt ts row)) false = (row.map (fun r => (r, true)) ++ ts.map er, false) := by
  induction ts with
  | nil =>
    intro row hz _
    have h := sck_inQ hz (rest := []) (by simp)
    rw [List.append_nil, sck_nil] at h
    rw [prt_nil, h]; rfl
  | cons t ts ih =>
    intro row hz hm
    rw [List.all_cons, Bool.and_eq_true] at hm
    obtain ⟨h1, h2⟩ := hm
    simp only [mayT, Bool.and_eq_true, Bool.or_eq_true, Bool.not_eq_true', decide_eq_false_iff_not] at h1
    obtain ⟨hc, hq⟩ := h1
    rcases ht : t.2.1 with _ | _
    · rw [ht] at hq
      have h39 : t.1 ≠ 39 := by rcases hq with h | h; cases h; exact h
      have hN : t.1.toNat ≠ 39 := fun h => h39 ((isZ_39 hc).1 h)
      rw [prt_p ht, nats_append, nats_cons, sck_inQ hz (by simp [hN]), sck_else hN, ih [] rfl h2, Int.toNat_of_nonneg (isZ_iff.1 hc).1]
      simp [er, ht]
    · rw [prt_q ht, ih _ (by rw [List.all_append, hz]; simp [hc]) h2]
      simp [er, ht]
/-- WHAT IS PRINTED IS SCANNED AS THE SAME TOKENS. -/
theorem scn_prt {ts : List Tok} (h : ts.all mayT = true) : (scn (nats (prt ts [])) 0 (-1)).1.map er = ts.map er ∧ (scn (nats (prt ts [])) 0 (-1)).2 < 0 := by
  obtain ⟨h1, h2⟩ := scn_sck (nats (prt ts [])) 0 (-1)
  have h3 := sck_prt ts [] rfl h
  rw [show decide (0 ≤ (-1 : Int)) = false from rfl, h3] at h1 h2
  exact ⟨h1, by simpa using h2⟩
/-- What Scan answers of a text of these bytes: tokens, the error, where. -/
def toks (l : List Nat) : List Tok × Int × Int :=
  if rst l ≠ [] then ([], 2, badZ l)
  else if 0 ≤ (scn (cps l) 0 (-1)).2 then ([], 3, (scn (cps l) 0 (-1)).2)
  else if 400 < (scn (cps l) 0 (-1)).1.length then ([], 8, 0)
  else ((scn (cps l) 0 (-1)).1, 0, 0)
theorem toks_spec {l : List Nat} (hl : ∀ b ∈ l, b < 256) : (toks l).1.all mayT = true ∧ (toks l).1.length ≤ 400 ∧ ((toks l).2.1 ≠ 0 → (toks l).1 = []) := by
  unfold toks
  split
  · exact ⟨rfl, by simp, fun _ => rfl⟩
  · split
    · exact ⟨rfl, by simp, fun _ => rfl⟩
    · split
      · exact ⟨rfl, by simp, fun _ => rfl⟩
      · exact ⟨scn_may _ _ _ (scan_spec l hl).2.1, by dsimp only; omega, fun h => absurd rfl h⟩
theorem toks_right {cs : List Nat} (h : allC cs = true) (ho : (scn cs 0 (-1)).2 < 0) (hn : (scn cs 0 (-1)).1.length ≤ 400) : toks (encs cs) = ((scn cs 0 (-1)).1, 0, 0) := by
  rw [toks, cps_encs h, if_neg (by simp [rst_encs h]), if_neg (by omega), if_neg (by omega)]
/-- What Print answers, as a text. -/
def prtZ (ts : List Tok) : ByteArray := if ts.all mayT then stz (encs (nats (prt ts []))) else stz []
theorem prtZ_may {ts : List Tok} (h : ts.all mayT = true) : prtZ ts = stz (encs (nats (prt ts []))) ∧ bts (prtZ ts) = encs (nats (prt ts [])) ∧ allC (nats (prt ts [])) = true ∧ (prt ts []).all isZ = true := by
  have hz : (prt ts []).all isZ = true := by rw [prt_isZ]; simp only [List.all_nil, Bool.true_and]; exact may_isZ h
  have hc := allC_nats hz
  have e : prtZ ts = stz (encs (nats (prt ts []))) := by rw [prtZ, if_pos h]
  exact ⟨e, by rw [e, bts_stz (encs_lt hc)], hc, hz⟩
theorem nats_length (l : List Int) : (nats l).length = l.length := by simp [nats]
theorem prtZ_size (ts : List Tok) : (prtZ ts).size ≤ 16 * ts.length + 8 := by
  unfold prtZ; split
  · rw [stz_size]
    have h1 := encs_len4 (nats (prt ts []))
    have h2 := prt_len ts []
    rw [nats_length] at h1
    simp only [List.length_nil] at h2
    omega
  · rw [stz_size]; simp
theorem prtZ_er {ts ts' : List Tok} (h : ts.map er = ts'.map er) : prtZ ts = prtZ ts' := by rw [prtZ, prtZ, may_er h, prt_er [] h]
theorem toks_prt {ts : List Tok} (h : ts.all mayT = true) (hn : ts.length ≤ 400) : ∃ ts', toks (bts (prtZ ts)) = (ts', 0, 0) ∧ ts'.map er = ts.map er := by
  obtain ⟨_, h2, h3, _⟩ := prtZ_may h
  obtain ⟨h5, h6⟩ := scn_prt h
  refine ⟨_, ?_, h5⟩
  rw [h2, toks_right h3 h6]
  have := congrArg List.length h5
  simp only [List.length_map] at this
  omega
end Go.Proofs.Ytiflkkmeloclfaa
/- TB -/
/-
  TB: tokens and pieces in memory.
-/
set_option maxRecDepth 100000
namespace Go.Proofs.Ytiflkkmeloclfaa
open Go.RowKit
/-- A token's cells. -/
def tokV (t : Tok) : List Value := [.int .i32 t.1, .bool t.2.1, .int .i64 t.2.2]
def toksV (ts : List Tok) : List Value := ts.flatMap tokV
theorem toksV_cons (t : Tok) (ts : List Tok) : toksV (t :: ts) = tokV t ++ toksV ts := rfl
theorem toksV_length (ts : List Tok) : (toksV ts).length = ts.length * 3 := by
  induction ts with
  | nil => rfl
  | cons t ts ih => rw [toksV_cons, List.length_append, ih]; simp only [tokV, List.length_cons, List.length_nil]; omega
theorem toksV_append (ts us : List Tok) : toksV (ts ++ us) = toksV ts ++ toksV us := by simp [toksV]
theorem toksV_one (t : Tok) : toksV [t] = tokV t := by simp [toksV]
theorem toksV_cell (ts : List Tok) : ∀ u ∈ toksV ts, u.oneCell' = true := by
  intro u hu
  obtain ⟨t, _, ht⟩ := List.mem_flatMap.1 hu
  simp only [tokV, List.mem_cons, List.not_mem_nil, or_false] at ht
  rcases ht with rfl | rfl | rfl <;> rfl
/-- The k-th token. -/
def tk (ts : List Tok) (k : Nat) : Tok := ts.getD k (0, false, 0)
theorem tk_eq {ts : List Tok} {k : Nat} (h : k < ts.length) : tk ts k = ts[k] := by simp [tk, List.getD, List.getElem?_eq_getElem h]
theorem toksV_get (ts : List Tok) : ∀ (k j : Nat), k < ts.length → j < 3 → (toksV ts)[k * 3 + j]? = (tokV (tk ts k))[j]? := by
  induction ts with
  | nil => intro k j h _; simp at h
  | cons t ts ih =>
    intro k j h hj
    cases k with
    | zero =>
      rw [toksV_cons, List.getElem?_append_left (by show _ < 3; omega)]
      simp [tk]
    | succ k =>
      rw [toksV_cons, List.getElem?_append_right (by show 3 ≤ _; omega)]
      rw [show (k + 1) * 3 + j - (tokV t).length = k * 3 + j by show _ - 3 = _; omega, ih k j (by simpa using h) hj]
      simp [tk]
def R32 (t : Tok) : Prop := -2147483648 ≤ t.1 ∧ t.1 ≤ 2147483647
theorem r32_may {t : Tok} (h : mayT t = true) : R32 t := by
  simp only [mayT, Bool.and_eq_true] at h
  have := isZ_iff.1 h.1
  exact ⟨by omega, by omega⟩
/-- A slice that reads as the tokens ts. -/
def Tks (w : World) (A : Option Addr) (n : Nat) (ts : List Tok) : Prop := Reads w w.heap.size 3 A n (toksV ts) ∧ n ≤ 36000000000000 ∧ ∀ t ∈ ts, R32 t
section
variable {w w' : World} {n : Nat} {A : Option Addr} {ts : List Tok}
theorem Tks.len (h : Tks w A n ts) : ts.length = n := by have := h.1.1; rw [toksV_length] at this; omega
theorem Tks.below (h : Tks w A n ts) (hb : Below w.heap.size w w') : Tks w' A n ts := ⟨(h.1.below hb).more hb.size, h.2⟩
theorem Tks.at_ {k : Nat} (h : Tks w A n ts) (hk : k < n) : ∃ ad, A = some ad ∧ ad.block < w.heap.size ∧ w.cell? (ad.add (k * 3)) = some (.int .i32 (tk ts k).1) ∧ w.cell? ⟨(ad.add (k * 3)).block, (ad.add (k * 3)).off + 1, none⟩ = some (.bool (tk ts k).2.1) ∧
    w.cell? ⟨(ad.add (k * 3)).block, (ad.add (k * 3)).off + 2, none⟩ = some (.int .i64 (tk ts k).2.2) ∧ R32 (tk ts k) := by
  obtain ⟨ad, e, hb, hc⟩ := h.1.2 (by omega)
  have hl : k < ts.length := by rw [h.len]; exact hk
  have f1 := hc (k * 3 + 1) (.bool (tk ts k).2.1) (by rw [toksV_get ts k 1 hl (by omega)]; rfl)
  have f2 := hc (k * 3 + 2) (.int .i64 (tk ts k).2.2) (by rw [toksV_get ts k 2 hl (by omega)]; rfl)
  rw [← add_of_add] at f1 f2
  refine ⟨ad, e, hb, hc (k * 3) _ ?_, f1, f2, ?_⟩
  · have := toksV_get ts k 0 hl (by omega); rw [Nat.add_zero] at this; rw [this]; rfl
  · rw [tk_eq hl]; exact h.2.2 _ (List.getElem_mem hl)
end
theorem tks_nil (w : World) : Tks w none 0 [] := ⟨Reads.none_, by omega, by simp⟩
section
variable {w w' : World} {base m c : Nat} {A : Option Addr} {ts : List Tok}
end
theorem own_keptN {w w' : World} {base B : Nat} {e : TypeId} {size n : Nat} {v : Value} {xs : List Value} (h : w.ownsRow base e size v n xs) (hb : Below B w w') (hB : B = w.heap.size) : w'.ownsRow base e size v n xs := by
  subst hB
  refine h.kept (row := none) ⟨hb.os, hb.tape, hb.output, hb.size, fun k hk _ => hb.block k hk⟩ ?_
  cases v.ownBlock <;> simp
theorem cells_row (W : World) (xs : List Value) (e : TypeId) : ∀ j u, xs[j]? = some u → (W.alloc (.cells xs.toArray e)).cell? ((⟨W.heap.size, 0, none⟩ : Addr).add j) = some u :=
  (World.ownsRow_lit (base := 0) (e := e) (size := xs.length) W xs.toArray 1 (Nat.zero_le _) (by unfold maxLen; omega) (by simp)).cells rfl
/-- 'out = append(out, rs...)' of a row of runes of the call's own, which may be nil. -/
theorem wpList_app_runes {W w0 : World} {ops : Array Oper} {rest : List Oper} {o : Oper} {a : Act} {Q : Exit → Act → World → Prop} (hgd : o.guard = none) (s x : Operand) (t : TypeId)
    (ho : o.op = .call { callee := .builtin .append, args := #[s, x], argTypes := #[t, t] }) (ht : Try.prog.underlying t = some (.slice 21))
    (base : Nat) (v : Value) (k : Nat) (xs : List Int) (hs : a.eval s = v) (hown : W.ownsRow base 21 1 v k (i32s xs)) (V : Value) (m base' : Nat) (ys : List Int)
    (hx : a.eval x = V) (hr : W.ownsRow base' 21 1 V m (i32s ys)) (hk : k + m ≤ 1000000000000) (hb : Below base w0 W) (hbase : base ≤ W.heap.size)
    (h : ∀ v' w', Hid (w'.ownsRow base 21 1 v' (k + m) (i32s (xs ++ ys))) → Hid (Below base w0 w') → Hid (∀ k, k < W.heap.size → v.ownBlock ≠ some k → w'.heap[k]? = W.heap[k]?) → wpList Try.prog ops Q rest (a.put o.dst v') w') :
    wpList Try.prog ops Q (o :: rest) a W := by
  obtain ⟨i0, hi, hz0, hz1, hz2⟩ := info_parts i32_info
  have hl : ys.length = m := by have := hr.1; simpa [i32s_length] using this
  rcases hr.2 with ⟨rfl, rfl⟩ | ⟨g, cap, cur, rfl, _, hg, hnc, hcm, hcs, htake⟩
  · have : ys = [] := List.eq_nil_of_length_eq_zero hl
    subst this
    refine wpList_append_own_none hgd s x t ho base 21 i0 1 ht hi v k _ hs hown hx ?_
    refine h v W ?_ hb fun _ _ _ => rfl
    rw [List.append_nil]; exact hown
  · refine wpList_append_own _ hgd s x t ho base 21 i0 (.int .i32 0) 1 4 ht hi hz0 hz1 hz2 rfl (by decide) v k _ hs hown ⟨g, 0, none⟩ m cap (i32s ys) hx (by rw [i32s_length, hl, Nat.mul_one]) (hr.cells rfl) (i32s_one _) ?_ ?_ hbase ?_
    · unfold maxLen; omega
    · omega
    · intro v' w' h1 h2 _
      refine h v' w' ?_ ?_ ?_
      · rw [i32s_append]; exact h1
      · exact hb.grown h2 hbase fun j hj => (hown.lt j hj).1
      · exact fun k hk hne => h2.block k hk (fun e => hne e.symm)
/-- A row of one rune, written out. -/
theorem own_lit_i32 (W : World) (base : Nat) (hb : base ≤ W.heap.size) (r : Int) : (W.alloc (.cells #[.int .i32 r] 21)).ownsRow base 21 1 (.slice (some ⟨W.heap.size, 0, none⟩) 1 1) 1 (i32s [r]) :=
  World.ownsRow_lit W _ 1 hb (by unfold maxLen; omega) rfl
end Go.Proofs.Ytiflkkmeloclfaa
/- TC -/
/-
  TC: token's contracts: point, place, tell, take, keep, inQuotes.
-/
set_option maxRecDepth 100000
namespace Go.Proofs.Ytiflkkmeloclfaa
open Go.RowKit
/-- A token as a value. -/
def tokG (t : Tok) : Value := .agg #[.int .i32 t.1, .bool t.2.1, .int .i64 t.2.2]
theorem take_getD_succ (zs : List Int) {k : Nat} (h : k < zs.length) : zs.take (k + 1) = zs.take k ++ [zs.getD k 0] := by
  rw [List.take_succ_eq_append_getElem h, List.getD, List.getElem?_eq_getElem h]; rfl
end Go.Proofs.Ytiflkkmeloclfaa
/- TD -/
/-
  TD: token's contracts: split, Scan.
-/
set_option maxRecDepth 100000
namespace Go.Proofs.Ytiflkkmeloclfaa
open Go.RowKit
/-- What is left of a right text from p on. -/
def Rem (s : ByteArray) (p : Nat) (cs : List Nat) : Prop := p ≤ s.size ∧ (bts s).drop p = encs cs ∧ allC cs = true
theorem Rem.zero {s : ByteArray} (h : rst (bts s) = []) : Rem s 0 (cps (bts s)) := ⟨Nat.zero_le _, scan_right (bts_lt s) h, (scan_spec _ (bts_lt s)).2.1⟩
theorem Rem.len {s : ByteArray} {p : Nat} {cs : List Nat} (h : Rem s p cs) : p + (encs cs).length = s.size := by
  have := congrArg List.length h.2.1
  rw [List.length_drop, bts_length] at this
  have := h.1
  omega
theorem Rem.none {s : ByteArray} {p : Nat} (h : Rem s p []) : ¬ p < s.size := by
  have := h.len
  rw [encs_nil] at this
  simp at this; omega
theorem Rem.some {s : ByteArray} {p : Nat} {c : Nat} {cs : List Nat} (h : Rem s p (c :: cs)) :
    isC c = true ∧ Rem s (p + (encN c).length) cs ∧ Utf8.decode s p = (c, (encN c).length) ∧ p < s.size ∧ 1 ≤ (encN c).length := by
  obtain ⟨h1, h2⟩ := allC_cons.1 h.2.2
  have hl := h.len
  have hp := encN_pos c
  rw [encs_cons, List.length_append] at hl
  refine ⟨h1, ⟨by omega, ?_, h2⟩, ?_, by omega, hp⟩
  · rw [← List.drop_drop, h.2.1, encs_cons, List.drop_append_of_le_length (Nat.le_refl _), List.drop_length, List.nil_append]
  · rw [decode_bts, h.2.1, encs_cons, dec_enc h1]
theorem encs_39 {cs : List Nat} {l : List Nat} (h : encs cs = 39 :: l) : ∃ cs', cs = 39 :: cs' ∧ encs cs' = l := by
  cases cs with
  | nil => cases h
  | cons c cs =>
    rw [encs_cons] at h
    rcases encN_cases c with ⟨_, e⟩ | ⟨_, _, e⟩ | ⟨_, _, e⟩ | ⟨_, e⟩ <;> rw [e] at h <;> simp only [List.cons_append, List.nil_append, List.cons.injEq] at h
    · obtain ⟨rfl, h⟩ := h; exact ⟨cs, rfl, h⟩
    all_goals (exfalso; omega)
/-- Two '. -/
def twoS : ByteArray := ⟨#[39, 39]⟩
theorem bts_two : bts twoS = [39, 39] := rfl
theorem Rem.two {s : ByteArray} {p : Nat} {cs : List Nat} (h : Rem s p cs) : pfx twoS (s.extract p s.size) = true ↔ ∃ cs', cs = 39 :: 39 :: cs' := by
  rw [pfx_iff, bts_from, h.2.1, bts_two]
  constructor
  · rintro ⟨r, hr⟩
    obtain ⟨c1, rfl, h1⟩ := encs_39 hr
    obtain ⟨c2, rfl, _⟩ := encs_39 h1
    exact ⟨c2, rfl⟩
  · rintro ⟨cs', rfl⟩
    exact ⟨encs cs', by rw [encs_cons, encs_cons]; rfl⟩
/-- How far a scan is: F in the end, L till now, at p, what is ahead of nx is done, cs to come, quotes stand open at o. -/
def St (F : List Tok × Int) (L : List Tok) (p nx : Nat) (cs : List Nat) (o : Int) : Prop :=
  (nx ≤ p ∧ F = (L ++ (scn cs p o).1, (scn cs p o).2)) ∨ (nx = p + 1 ∧ ∃ cs', cs = 39 :: cs' ∧ F = (L ++ (scn cs' (p + 1) o).1, (scn cs' (p + 1) o).2))
section
variable {F : List Tok × Int} {L : List Tok} {p nx : Nat} {cs : List Nat} {o : Int}
theorem St.zero (cs : List Nat) : St (scn cs 0 (-1)) [] 0 0 cs (-1) := .inl ⟨Nat.le_refl _, by rw [List.nil_append]⟩
theorem St.end_ (h : St F L p nx [] o) : F = (L, o) := by
  rcases h with ⟨_, h⟩ | ⟨_, cs', h, _⟩
  · rw [h, scn_nil, List.append_nil]
  · cases h
theorem St.skip {c : Nat} (h : St F L p nx (c :: cs) o) (hp : p < nx) : c = 39 ∧ St F L (p + 1) nx cs o := by
  rcases h with ⟨h, _⟩ | ⟨h1, cs', h, h2⟩
  · omega
  · cases h
    exact ⟨rfl, .inl ⟨by omega, h2⟩⟩
theorem St.pair (h : St F L p nx (39 :: 39 :: cs) o) (hp : nx ≤ p) : St F (L ++ [(39, true, (p : Int))]) (p + 1) (p + 2) (39 :: cs) o := by
  rcases h with ⟨_, h⟩ | ⟨h, _⟩
  · refine .inr ⟨rfl, cs, rfl, ?_⟩
    rw [h, scn_two, List.append_assoc]; rfl
  · omega
theorem St.opens (h : St F L p nx (39 :: cs) o) (hp : nx ≤ p) (hc : cs.head? ≠ some 39) (ho : o < 0) : St F L (p + 1) nx cs (p : Int) := by
  rcases h with ⟨_, h⟩ | ⟨h, _⟩
  · refine .inl ⟨by omega, ?_⟩
    rw [h, scn_one hc, if_pos ho]
  · omega
theorem St.close (h : St F L p nx (39 :: cs) o) (hp : nx ≤ p) (hc : cs.head? ≠ some 39) (ho : ¬ o < 0) : St F L (p + 1) nx cs (-1) := by
  rcases h with ⟨_, h⟩ | ⟨h, _⟩
  · refine .inl ⟨by omega, ?_⟩
    rw [h, scn_one hc, if_neg ho]
  · omega
theorem St.other {c : Nat} (h : St F L p nx (c :: cs) o) (hp : nx ≤ p) (hc : c ≠ 39) : St F (L ++ [((c : Int), decide (0 ≤ o), (p : Int))]) (p + (encN c).length) nx cs o := by
  rcases h with ⟨_, h⟩ | ⟨h, _⟩
  · refine .inl ⟨by omega, ?_⟩
    rw [h, scn_else hc, List.append_assoc]; rfl
  · omega
end
theorem not_pair {cs : List Nat} (h : ¬ ∃ cs', 39 :: cs = 39 :: 39 :: cs') : cs.head? ≠ some 39 := by
  intro e
  cases cs with
  | nil => cases e
  | cons c cs => cases e; exact h ⟨cs, rfl⟩
end Go.Proofs.Ytiflkkmeloclfaa
/- TE -/
/-
  TE: token's Scan.
-/
set_option maxRecDepth 100000
namespace Go.Proofs.Ytiflkkmeloclfaa
open Go.RowKit
section
variable {w w' : World} {g : Nat} {x y : Value}
theorem Below.set2 {B : Nat} (h : Below B w w') (hg : B ≤ g) (x' y' : Value) : Below B w ((w'.setCell ⟨g, 0, none⟩ x').setCell ⟨g, 1, none⟩ y') :=
  (h.setCell (p := ⟨g, 0, none⟩) hg _).setCell (p := ⟨g, 1, none⟩) hg _
end
/-- A store below a row turns it not. -/
theorem own_setCell {w : World} {base : Nat} {e : TypeId} {size n : Nat} {v : Value} {xs : List Value} (h : w.ownsRow base e size v n xs) {p : Addr} (hp : p.block < base) (u : Value) : (w.setCell p u).ownsRow base e size v n xs := by
  refine h.kept (row := some p.block) ⟨rfl, rfl, rfl, by simp, fun k _ hk => heap_setCell_other w p k u (fun e => hk (by rw [e]))⟩ ?_
  rcases hv : v.ownBlock with _ | k
  · exact .inl rfl
  · right
    intro e
    have := (h.lt k hv).1
    cases e
    omega
theorem scn_isZ {cs : List Nat} (h : allC cs = true) (a : Nat) (o : Int) : ∀ t ∈ (scn cs a o).1, R32 t := fun t ht => r32_may (List.all_eq_true.1 (scn_may cs a o h) t ht)
theorem tk_take_succ (ts : List Tok) {k : Nat} (h : k < ts.length) : ts.take (k + 1) = ts.take k ++ [tk ts k] := by
  rw [List.take_succ_eq_append_getElem h, tk_eq h]
end Go.Proofs.Ytiflkkmeloclfaa
/- TF -/
/-
  TF: token's Print.
-/
set_option maxRecDepth 100000
namespace Go.Proofs.Ytiflkkmeloclfaa
open Go.RowKit
/-- Runes as int32 has them. -/
def Rg (zs : List Int) : Prop := ∀ z ∈ zs, -2147483648 ≤ z ∧ z ≤ 2147483647
theorem rg_nil : Rg [] := fun _ h => absurd h (by simp)
theorem rg_append {xs ys : List Int} (hx : Rg xs) (hy : Rg ys) : Rg (xs ++ ys) := fun z hz => (List.mem_append.1 hz).elim (hx z) (hy z)
theorem rg_one {t : Tok} (h : R32 t) : Rg [t.1] := fun z hz => by rw [List.mem_singleton] at hz; subst hz; exact h
theorem rg_dbl {xs : List Int} (hx : Rg xs) : Rg (dbl xs) := by
  intro z hz
  obtain ⟨r, hr, hz⟩ := List.mem_flatMap.1 hz
  split at hz
  · simp only [List.mem_cons, List.not_mem_nil, or_false, or_self] at hz; subst hz; omega
  · rw [List.mem_singleton] at hz; subst hz; exact hx _ hr
theorem rg_inQ {xs : List Int} (hx : Rg xs) : Rg (inQ xs) := by
  unfold inQ; split
  · exact rg_dbl hx
  · intro z hz
    simp only [List.mem_cons, List.mem_append, List.not_mem_nil, or_false] at hz
    rcases hz with rfl | hz | rfl
    · omega
    · exact rg_dbl hx z hz
    · omega
/-- Is a token no plain '? -/
def okT (t : Tok) : Bool := t.2.1 || !decide (t.1 = 39)
theorem prtZ_ok {ts : List Tok} (h : ts.all okT = true) : prtZ ts = txtZ (prt ts []) := by
  have hm : ts.all mayT = (prt ts []).all isZ := by
    rw [prt_isZ, List.all_nil, Bool.true_and]
    have hgen : ∀ us : List Tok, us.all okT = true → us.all mayT = us.all fun t => isZ t.1 := by
      intro us
      induction us with
      | nil => intro _; rfl
      | cons t us ih =>
        intro h
        rw [List.all_cons, Bool.and_eq_true] at h
        rw [List.all_cons, List.all_cons, ih h.2, mayT, show (t.2.1 || !decide (t.1 = 39)) = true from h.1, Bool.and_true]
    exact hgen ts h
  rw [prtZ, txtZ, hm]; rfl
theorem prtZ_no {ts : List Tok} {t : Tok} (ht : t ∈ ts) (h : okT t = false) : prtZ ts = ⟨#[]⟩ := by
  have hm : ts.all mayT = false := by
    rw [Bool.eq_false_iff]
    intro ha
    have := List.all_eq_true.1 ha t ht
    rw [mayT, show (t.2.1 || !decide (t.1 = 39)) = false from h, Bool.and_false] at this
    cases this
  rw [prtZ, hm]; rfl
theorem tk_mem {ts : List Tok} {k : Nat} (h : k < ts.length) : tk ts k ∈ ts := by rw [tk_eq h]; exact List.getElem_mem h
theorem drop_tk {ts : List Tok} {k : Nat} (h : k < ts.length) : ts.drop k = tk ts k :: ts.drop (k + 1) := by rw [List.drop_eq_getElem_cons h, tk_eq h]
/-- A row stays as it is over what is done from a block behind it on. -/
theorem own_under {w w' : World} {base B : Nat} {e : TypeId} {size n : Nat} {v : Value} {xs : List Value} (h : w.ownsRow base e size v n xs) (hv : ∀ k, v.ownBlock = some k → k < B) (hb : Below B w w') : w'.ownsRow base e size v n xs := by
  refine ⟨h.1, ?_⟩
  rcases h.2 with h' | ⟨g, cap, cur, rfl, h1, h2, h3⟩
  · exact .inl h'
  · exact .inr ⟨g, cap, cur, rfl, h1, (hb.block g (hv g rfl)).trans h2, h3⟩
end Go.Proofs.Ytiflkkmeloclfaa
/- VA -/
/-
  VA: items of an affix, plain and in memory.
-/
set_option maxRecDepth 100000
namespace Go.Proofs.Ytiflkkmeloclfaa
open Go.RowKit
/-- An item: its kind, its code point. -/
abbrev Itm := Int × Int
/-- The signs, the marks, and what else needs quotes. -/
def sgs : List Nat := [45, 43, 37, 8240, 164]
def mks : List Nat := [35, 48, 49, 50, 51, 52, 53, 54, 55, 56, 57, 64, 44, 46, 59, 42]
def oth : List Nat := [69, 39]
def sgn (k : Nat) : Nat := sgs.getD k 0
/-- Where a sign stands among the signs' bytes. -/
def sgo (k : Nat) : Nat := [0, 1, 2, 3, 6, 8].getD k 8
/-- A sign's kind; 0: it is none. -/
def sgK (r : Int) : Int := if r = 45 then 2 else if r = 43 then 3 else if r = 37 then 4 else if r = 8240 then 5 else if r = 164 then 6 else 0
def mrk (r : Int) : Bool := decide (r ∈ ints mks)
def nds (r : Int) : Bool := decide (r ∈ ints sgs) || mrk r || decide (r ∈ ints oth)
theorem sgs_cons : ints sgs = [45, 43, 37, 8240, 164] := rfl
theorem mks_cons : ints mks = [35, 48, 49, 50, 51, 52, 53, 54, 55, 56, 57, 64, 44, 46, 59, 42] := rfl
theorem oth_cons : ints oth = [69, 39] := rfl
theorem sgs_iff {r : Int} : r ∈ ints sgs ↔ r = 45 ∨ r = 43 ∨ r = 37 ∨ r = 8240 ∨ r = 164 := by simp [sgs_cons]
theorem mrk_iff {r : Int} : mrk r = true ↔ (48 ≤ r ∧ r ≤ 57) ∨ r = 35 ∨ r = 64 ∨ r = 44 ∨ r = 46 ∨ r = 59 ∨ r = 42 := by
  rw [mrk, decide_eq_true_iff, mks_cons]
  simp only [List.mem_cons, List.not_mem_nil, or_false]
  omega
theorem sgK_pos {r : Int} : sgK r ≠ 0 ↔ r ∈ ints sgs := by
  rw [sgs_iff]; unfold sgK; repeat' split
  all_goals simp_all
theorem sgK_zero {r : Int} : sgK r = 0 ↔ ¬ r ∈ ints sgs := by rw [← sgK_pos]; simp
theorem sgK_sgn {k : Nat} (h : k < 5) : sgK ((sgn k : Nat) : Int) = 2 + (k : Int) := by
  have : k = 0 ∨ k = 1 ∨ k = 2 ∨ k = 3 ∨ k = 4 := by omega
  rcases this with rfl | rfl | rfl | rfl | rfl <;> rfl
theorem sgK_none {r : Int} (h : ∀ k, k < 5 → r ≠ ((sgn k : Nat) : Int)) : sgK r = 0 := by
  rw [sgK_zero, sgs_iff]
  have h0 := h 0 (by omega)
  have h1 := h 1 (by omega)
  have h2 := h 2 (by omega)
  have h3 := h 3 (by omega)
  have h4 := h 4 (by omega)
  simp only [sgn, sgs, List.getD] at h0 h1 h2 h3 h4
  simp at h0 h1 h2 h3 h4
  omega
theorem sgK_range (r : Int) : 0 ≤ sgK r ∧ sgK r ≤ 6 := by
  unfold sgK; repeat' split
  all_goals omega
theorem nds_iff {r : Int} : nds r = true ↔ r ∈ ints sgs ∨ mrk r = true ∨ r = 69 ∨ r = 39 := by
  rw [nds, Bool.or_eq_true, Bool.or_eq_true, decide_eq_true_iff, decide_eq_true_iff, oth_cons]
  simp only [List.mem_cons, List.not_mem_nil, or_false]
  constructor
  · rintro ((h | h) | h | h)
    · exact .inl h
    · exact .inr (.inl h)
    · exact .inr (.inr (.inl h))
    · exact .inr (.inr (.inr h))
  · rintro (h | h | h | h)
    · exact .inl (.inl h)
    · exact .inl (.inr h)
    · exact .inr (.inl h)
    · exact .inr (.inr h)
/-- A token's item, if it is no plain mark. -/
def itm (t : Tok) : Itm := if t.2.1 = false ∧ sgK t.1 ≠ 0 then (sgK t.1, 0) else (1, t.1)
theorem itm_q {t : Tok} (h : t.2.1 = true) : itm t = (1, t.1) := by rw [itm, if_neg (by rw [h]; simp)]
theorem itm_p {t : Tok} (h : sgK t.1 = 0) : itm t = (1, t.1) := by rw [itm, if_neg (by rw [h]; simp)]
theorem itm_s {t : Tok} (h : t.2.1 = false) (h' : sgK t.1 ≠ 0) : itm t = (sgK t.1, 0) := by rw [itm, if_pos ⟨h, h'⟩]
/-- A plain mark. -/
def badT (t : Tok) : Bool := !t.2.1 && mrk t.1
/-- What Items answers of tokens: items, error, place. -/
def itms (ts : List Tok) : List Itm × Int × Int :=
  match ts.find? badT with
  | some t => ([], 4, t.2.2)
  | none => if 40 < ts.length then ([], 8, 0) else (ts.map itm, 0, 0)
theorem itms_bad {ts : List Tok} {t : Tok} (h : ts.find? badT = some t) : itms ts = ([], 4, t.2.2) := by rw [itms, h]
theorem itms_long {ts : List Tok} (h : ts.find? badT = none) (hl : 40 < ts.length) : itms ts = ([], 8, 0) := by rw [itms, h]; exact if_pos hl
theorem itms_ok {ts : List Tok} (h : ts.find? badT = none) (hl : ¬ 40 < ts.length) : itms ts = (ts.map itm, 0, 0) := by rw [itms, h]; exact if_neg hl
/-- The first plain mark is the k-th token. -/
theorem find_at {ts : List Tok} {k : Nat} (hk : k < ts.length) (h : (ts.take k).find? badT = none) (hb : badT (tk ts k) = true) : ts.find? badT = some (tk ts k) := by
  have e : ts = ts.take k ++ tk ts k :: ts.drop (k + 1) := by
    conv => lhs; rw [← List.take_append_drop k ts, List.drop_eq_getElem_cons hk, ← tk_eq hk]
  rw [e, List.find?_append, h]
  simp only [Option.none_or]
  rw [← e, List.find?_cons, hb]
theorem find_take {ts : List Tok} {k : Nat} (hk : k < ts.length) (h : (ts.take k).find? badT = none) (hb : badT (tk ts k) = false) : (ts.take (k + 1)).find? badT = none := by
  rw [List.take_succ_eq_append_getElem hk, List.find?_append, h, ← tk_eq hk]
  simp [hb]
/-- Whether an item may be. -/
def mayI (i : Itm) : Bool := (decide (i.1 = 1) && isZ i.2) || (decide (2 ≤ i.1) && decide (i.1 ≤ 6) && decide (i.2 = 0))
theorem mayI_iff {k r : Int} : mayI (k, r) = true ↔ (k = 1 ∧ isZ r = true) ∨ (2 ≤ k ∧ k ≤ 6 ∧ r = 0) := by
  simp [mayI, and_assoc]
/-- The token that tells an item. -/
def tkI (i : Itm) : Tok := if i.1 = 1 then (i.2, nds i.2, 0) else (((sgn (i.1.toNat - 2) : Nat) : Int), false, 0)
theorem tkI_lit (r : Int) : tkI (1, r) = (r, nds r, 0) := rfl
theorem tkI_sign {k : Nat} (r : Int) : tkI (2 + (k : Int), r) = (((sgn k : Nat) : Int), false, 0) := by
  rw [tkI, if_neg (by omega), show (2 + (k : Int)).toNat - 2 = k by omega]
/-- What Tokens answers of items. -/
def tksI (is : List Itm) : List Tok := if is.all mayI then is.map tkI else []
theorem tksI_may {is : List Itm} (h : is.all mayI = true) : tksI is = is.map tkI := by rw [tksI, if_pos h]
theorem tksI_no {is : List Itm} (h : is.all mayI = false) : tksI is = [] := by rw [tksI, if_neg (by rw [h]; decide)]
theorem tksI_len (is : List Itm) : (tksI is).length ≤ is.length := by
  unfold tksI; split
  · rw [List.length_map]; exact Nat.le_refl _
  · exact Nat.zero_le _
theorem sgn_Z {k : Nat} (h : k < 5) : isZ ((sgn k : Nat) : Int) = true ∧ ((sgn k : Nat) : Int) ≠ 39 ∧ mrk ((sgn k : Nat) : Int) = false := by
  have : k = 0 ∨ k = 1 ∨ k = 2 ∨ k = 3 ∨ k = 4 := by omega
  rcases this with rfl | rfl | rfl | rfl | rfl <;> exact ⟨by decide, by decide, by decide⟩
theorem mayI_form {i : Itm} (h : mayI i = true) : (i.1 = 1 ∧ isZ i.2 = true) ∨ ∃ k : Nat, k < 5 ∧ i = (2 + (k : Int), 0) := by
  obtain ⟨a, r⟩ := i
  rcases mayI_iff.1 h with h | ⟨h1, h2, h3⟩
  · exact .inl h
  · exact .inr ⟨a.toNat - 2, by omega, by rw [h3, show 2 + ((a.toNat - 2 : Nat) : Int) = a by omega]⟩
theorem nds_39 {r : Int} (h : nds r = false) : r ≠ 39 ∧ sgK r = 0 ∧ mrk r = false := by
  have h' : ¬ nds r = true := by rw [h]; decide
  rw [nds_iff] at h'
  simp only [not_or] at h'
  obtain ⟨h1, h2, _, h3⟩ := h'
  exact ⟨h3, sgK_zero.2 h1, by simpa using h2⟩
/-- An item's token may be printed, is no plain mark, and tells the item. -/
theorem tkI_back {i : Itm} (h : mayI i = true) : mayT (tkI i) = true ∧ badT (tkI i) = false ∧ itm (tkI i) = i := by
  rcases mayI_form h with ⟨h1, h2⟩ | ⟨k, hk, rfl⟩
  · obtain ⟨a, r⟩ := i
    dsimp only at h1 h2
    subst h1
    rw [tkI_lit]
    rcases hn : nds r with _ | _
    · obtain ⟨n1, n2, n3⟩ := nds_39 hn
      refine ⟨?_, ?_, itm_p n2⟩
      · simp [mayT, h2, n1]
      · simp [badT, n3]
    · exact ⟨by simp [mayT, h2], rfl, itm_q rfl⟩
  · obtain ⟨z1, z2, z3⟩ := sgn_Z hk
    rw [tkI_sign]
    refine ⟨?_, ?_, ?_⟩
    · simp [mayT, z1, z2]
    · simp [badT, z3]
    · rw [itm_s rfl (by dsimp only; rw [sgK_sgn hk]; omega)]
      dsimp only
      rw [sgK_sgn hk]
theorem tksI_mayT (is : List Itm) : (tksI is).all mayT = true := by
  unfold tksI; split
  · rename_i h
    refine List.all_eq_true.2 fun t ht => ?_
    obtain ⟨i, hi, rfl⟩ := List.mem_map.1 ht
    exact (tkI_back (List.all_eq_true.1 h i hi)).1
  · rfl
theorem find_none {ts : List Tok} (h : ∀ t ∈ ts, badT t = false) : ts.find? badT = none := by
  rw [List.find?_eq_none]
  intro t ht
  rw [h t ht]; decide
theorem itm_er {t t' : Tok} (h : er t = er t') : itm t = itm t' ∧ badT t = badT t' := by
  obtain ⟨r, q, a⟩ := t
  obtain ⟨r', q', a'⟩ := t'
  simp only [er, Prod.mk.injEq] at h
  obtain ⟨rfl, rfl⟩ := h
  exact ⟨rfl, rfl⟩
/-- Tokens that tell items, wherever they stand, tell these. -/
theorem itms_back {is : List Itm} {ts : List Tok} (h : is.all mayI = true) (hl : is.length ≤ 40) (he : ts.map er = (tksI is).map er) : itms ts = (is, 0, 0) := by
  rw [tksI_may h, List.map_map] at he
  have hlen : ts.length = is.length := by have := congrArg List.length he; simpa using this
  have hat : ∀ (j : Nat) (h1 : j < ts.length) (h2 : j < is.length), er ts[j] = er (tkI is[j]) := by
    intro j h1 h2
    have e : (ts.map er)[j]? = (is.map (er ∘ tkI))[j]? := by rw [he]
    rw [List.getElem?_map, List.getElem?_map, List.getElem?_eq_getElem h1, List.getElem?_eq_getElem h2] at e
    simpa using e
  have hb : ts.find? badT = none := by
    refine find_none fun t ht => ?_
    obtain ⟨j, hj, rfl⟩ := List.mem_iff_getElem.1 ht
    rw [(itm_er (hat j hj (by omega))).2]
    exact (tkI_back (List.all_eq_true.1 h _ (List.getElem_mem (by omega)))).2.1
  rw [itms_ok hb (by omega)]
  refine Prod.ext ?_ rfl
  refine List.ext_getElem (by rw [List.length_map]; exact hlen) fun j h1 h2 => ?_
  rw [List.length_map] at h1
  dsimp only at h2
  rw [List.getElem_map, (itm_er (hat j h1 h2)).1]
  exact (tkI_back (List.all_eq_true.1 h _ (List.getElem_mem h2))).2.2
theorem itms_len (ts : List Tok) : (itms ts).1.length ≤ 40 := by
  unfold itms; split
  · exact Nat.zero_le _
  · split
    · exact Nat.zero_le _
    · simp; omega
/-- An item's cells. -/
def itmV (i : Itm) : List Value := [.int .i64 i.1, .int .i32 i.2]
def itsV (is : List Itm) : List Value := is.flatMap itmV
theorem itsV_cons (i : Itm) (is : List Itm) : itsV (i :: is) = itmV i ++ itsV is := rfl
theorem itsV_length (is : List Itm) : (itsV is).length = is.length * 2 := by
  induction is with
  | nil => rfl
  | cons i is ih => rw [itsV_cons, List.length_append, ih]; simp only [itmV, List.length_cons, List.length_nil]; omega
theorem itsV_append (is js : List Itm) : itsV (is ++ js) = itsV is ++ itsV js := by simp [itsV]
theorem itsV_one (i : Itm) : itsV [i] = itmV i := by simp [itsV]
/-- The k-th item. -/
def im (is : List Itm) (k : Nat) : Itm := is.getD k (0, 0)
theorem im_eq {is : List Itm} {k : Nat} (h : k < is.length) : im is k = is[k] := by simp [im, List.getD, List.getElem?_eq_getElem h]
theorem im_mem {is : List Itm} {k : Nat} (h : k < is.length) : im is k ∈ is := by rw [im_eq h]; exact List.getElem_mem h
theorem im_take_succ (is : List Itm) {k : Nat} (h : k < is.length) : is.take (k + 1) = is.take k ++ [im is k] := by
  rw [List.take_succ_eq_append_getElem h, im_eq h]
theorem itsV_get (is : List Itm) : ∀ (k j : Nat), k < is.length → j < 2 → (itsV is)[k * 2 + j]? = (itmV (im is k))[j]? := by
  induction is with
  | nil => intro k j h _; simp at h
  | cons t ts ih =>
    intro k j h hj
    cases k with
    | zero =>
      rw [itsV_cons, List.getElem?_append_left (by show _ < 2; omega)]
      simp [im]
    | succ k =>
      rw [itsV_cons, List.getElem?_append_right (by show 2 ≤ _; omega)]
      rw [show (k + 1) * 2 + j - (itmV t).length = k * 2 + j by show _ - 2 = _; omega, ih k j (by simpa using h) hj]
      simp [im]
def RI (i : Itm) : Prop := (-9223372036854775808 ≤ i.1 ∧ i.1 ≤ 9223372036854775807) ∧ -2147483648 ≤ i.2 ∧ i.2 ≤ 2147483647
theorem ri_itm {t : Tok} (h : R32 t) : RI (itm t) := by
  have := sgK_range t.1
  unfold itm; split
  · exact ⟨⟨by dsimp only; omega, by dsimp only; omega⟩, by dsimp only; omega, by dsimp only; omega⟩
  · exact ⟨⟨by dsimp only; omega, by dsimp only; omega⟩, h⟩
theorem r32_tkI {i : Itm} (h : RI i) : R32 (tkI i) := by
  unfold tkI; split
  · exact h.2
  · have hg : sgn (i.1.toNat - 2) ≤ 8240 := by
      rcases Nat.lt_or_ge (i.1.toNat - 2) 5 with hk | hk
      · generalize i.1.toNat - 2 = k at hk
        have : k = 0 ∨ k = 1 ∨ k = 2 ∨ k = 3 ∨ k = 4 := by omega
        rcases this with rfl | rfl | rfl | rfl | rfl <;> decide
      · rw [sgn, List.getD, List.getElem?_eq_none hk]; decide
    exact ⟨by dsimp only; omega, by dsimp only; omega⟩
/-- A slice that reads as the items is. -/
def Its (w : World) (A : Option Addr) (n : Nat) (is : List Itm) : Prop := Reads w w.heap.size 2 A n (itsV is) ∧ n ≤ 36000000000000 ∧ ∀ i ∈ is, RI i
section
variable {w w' : World} {n : Nat} {A : Option Addr} {is : List Itm}
theorem Its.len (h : Its w A n is) : is.length = n := by have := h.1.1; rw [itsV_length] at this; omega
theorem Its.below (h : Its w A n is) (hb : Below w.heap.size w w') : Its w' A n is := ⟨(h.1.below hb).more hb.size, h.2⟩
theorem Its.at_ {k : Nat} (h : Its w A n is) (hk : k < n) : ∃ ad, A = some ad ∧ ad.block < w.heap.size ∧ w.cell? (ad.add (k * 2)) = some (.int .i64 (im is k).1) ∧ w.cell? ⟨(ad.add (k * 2)).block, (ad.add (k * 2)).off + 1, none⟩ = some (.int .i32 (im is k).2) ∧ RI (im is k) := by
  obtain ⟨ad, e, hb, hc⟩ := h.1.2 (by omega)
  have hl : k < is.length := by rw [h.len]; exact hk
  have f1 := hc (k * 2 + 1) (.int .i32 (im is k).2) (by rw [itsV_get is k 1 hl (by omega)]; rfl)
  rw [← add_of_add] at f1
  refine ⟨ad, e, hb, hc (k * 2) _ ?_, f1, ?_⟩
  · have := itsV_get is k 0 hl (by omega); rw [Nat.add_zero] at this; rw [this]; rfl
  · rw [im_eq hl]; exact h.2.2 _ (List.getElem_mem hl)
end
theorem its_nil (w : World) : Its w none 0 [] := ⟨Reads.none_, by omega, by simp⟩
section
variable {w w' : World} {base m c : Nat} {A : Option Addr} {is : List Itm}
end
/-- The signs' bytes. -/
def sgB : ByteArray := ⟨#[45, 43, 37, 226, 128, 176, 194, 164]⟩
def mkB : ByteArray := ⟨#[35, 48, 49, 50, 51, 52, 53, 54, 55, 56, 57, 64, 44, 46, 59, 42]⟩
def otB : ByteArray := ⟨#[69, 39]⟩
theorem sgB_eq : stz (encs sgs) = sgB := by decide +kernel
theorem mkB_eq : stz (encs mks) = mkB := by decide +kernel
theorem otB_eq : stz (encs oth) = otB := by decide +kernel
theorem sg_step {k : Nat} (h : k < 5) : Utf8.decode sgB (sgo k) = (sgn k, sgo (k + 1) - sgo k) ∧ sgo k < sgB.size ∧ sgo k + (sgo (k + 1) - sgo k) = sgo (k + 1) ∧ sgo k ≤ 6 ∧ 1 ≤ sgo (k + 1) - sgo k := by
  have : k = 0 ∨ k = 1 ∨ k = 2 ∨ k = 3 ∨ k = 4 := by omega
  rcases this with rfl | rfl | rfl | rfl | rfl <;> refine ⟨by decide +kernel, by decide, by decide, by decide, by decide⟩
theorem sg_end : ¬ sgo 5 < sgB.size := by decide
end Go.Proofs.Ytiflkkmeloclfaa
/- VB -/
/-
  VB: affix's has, Needs, item, tell.
-/
set_option maxRecDepth 100000
namespace Go.Proofs.Ytiflkkmeloclfaa
open Go.RowKit
/-- A block of cells. -/
def BX (w : World) (g : Nat) (vs : Array Value) (T : TypeId) : Prop := w.heap[g]? = some (.cells vs T (0, 0))
section
variable {w w' : World} {g : Nat} {vs : Array Value} {T : TypeId}
theorem BX.c (h : BX w g vs T) (j : Nat) : w.cell? ⟨g, j, none⟩ = vs[j]? := by rw [cell_of_row w g j _ _ _ h]
theorem BX.v {v : Value} (h : BX w g vs T) (j : Nat) (hv : vs[j]? = some v) : w.cell? ⟨g, j, none⟩ = some v := (h.c j).trans hv
theorem BX.fr (h : BX w g vs T) (k : Nat) : w.frozen? ⟨g, k, none⟩ = false := by simp [World.frozen?, show w.heap[g]? = _ from h]
theorem BX.below {B : Nat} (h : BX w g vs T) (hb : Below B w w') (hg : g < B) : BX w' g vs T := (hb.block g hg).trans h
theorem BX.new (w : World) (vs : Array Value) (T : TypeId) : BX (w.alloc (.cells vs T)) w.heap.size vs T := heap_alloc_new w _
theorem BX.lt (h : BX w g vs T) : g < w.heap.size := (Array.getElem?_eq_some_iff.1 h).1
theorem BX.alloc (h : BX w g vs T) (o : Obj) : BX (w.alloc o) g vs T := (heap_alloc_old w o h.lt).trans h
theorem BX.set2 {x y : Value} (h : BX w g #[x, y] T) (x' y' : Value) : BX ((w.setCell ⟨g, 0, none⟩ x').setCell ⟨g, 1, none⟩ y') g #[x', y'] T :=
  heap_setCell_same _ g 1 _ _ y' (heap_setCell_same w g 0 _ _ x' h)
theorem BX.set3 {x y z : Value} (h : BX w g #[x, y, z] T) (x' y' z' : Value) : BX (((w.setCell ⟨g, 0, none⟩ x').setCell ⟨g, 1, none⟩ y').setCell ⟨g, 2, none⟩ z') g #[x', y', z'] T :=
  heap_setCell_same _ g 2 _ _ z' (heap_setCell_same _ g 1 _ _ y' (heap_setCell_same w g 0 _ _ x' h))
theorem Below.set3 {B : Nat} (h : Below B w w') (hg : B ≤ g) (x' y' z' : Value) : Below B w (((w'.setCell ⟨g, 0, none⟩ x').setCell ⟨g, 1, none⟩ y').setCell ⟨g, 2, none⟩ z') :=
  (Below.set2 h hg x' y').setCell (p := ⟨g, 2, none⟩) hg _
end
theorem ints_mem {x : Nat} {cs : List Nat} : ((x : Nat) : Int) ∈ ints cs ↔ x ∈ cs := by
  constructor
  · intro h
    obtain ⟨y, hy, e⟩ := List.mem_map.1 h
    rwa [← Int.ofNat_inj.1 e]
  · exact fun h => List.mem_map.2 ⟨x, h, rfl⟩
/-- What tell answers of an item. -/
def tlI (i : Itm) : Tok := if mayI i then tkI i else (0, false, 0)
theorem tlI_may {i : Itm} (h : mayI i = true) : tlI i = tkI i := by rw [tlI, if_pos h]
theorem tlI_no {i : Itm} (h : mayI i = false) : tlI i = (0, false, 0) := by rw [tlI, if_neg (by rw [h]; decide)]
end Go.Proofs.Ytiflkkmeloclfaa
