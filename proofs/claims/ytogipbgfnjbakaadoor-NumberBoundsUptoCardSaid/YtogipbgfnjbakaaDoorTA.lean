/-
  TA: a pattern's tokens, plain.
-/
import Derived.Test.YtogipbgfnjbakaaDoorUB
set_option maxRecDepth 100000
namespace Go.Proofs.YtogipbgfnjbakaaDoor
/-- A token: a code point, whether it is quoted, where it stands. -/
abbrev Tok := Int × Bool × Int
/-- A token but for its place. -/
def er (t : Tok) : Int × Bool := (t.1, t.2.1)
/-- The tokens of code points, the first one at a, o: where quotes stand open (else -1); and where they stand open at the end. -/
def scn : List Nat → Nat → Int → List Tok × Int
  | [], _, o => ([], o)
  | [c], a, o => if c = 39 then ([], if o < 0 then (a : Int) else -1) else ([((c : Int), decide (0 ≤ o), (a : Int))], o)
  | c :: d :: cs, a, o =>
    if c = 39 ∧ d = 39 then ((39, true, (a : Int)) :: (scn cs (a + 2) o).1, (scn cs (a + 2) o).2)
    else if c = 39 then scn (d :: cs) (a + 1) (if o < 0 then (a : Int) else -1)
    else (((c : Int), decide (0 ≤ o), (a : Int)) :: (scn (d :: cs) (a + (encN c).length) o).1, (scn (d :: cs) (a + (encN c).length) o).2)
theorem scn_nil (a : Nat) (o : Int) : scn [] a o = ([], o) := rfl
theorem scn_two (cs : List Nat) (a : Nat) (o : Int) : scn (39 :: 39 :: cs) a o = ((39, true, (a : Int)) :: (scn cs (a + 2) o).1, (scn cs (a + 2) o).2) := by
  simp [scn]
theorem scn_one {cs : List Nat} (h : cs.head? ≠ some 39) (a : Nat) (o : Int) : scn (39 :: cs) a o = scn cs (a + 1) (if o < 0 then (a : Int) else -1) := by
  cases cs with
  | nil => simp [scn]
  | cons d cs =>
    have hd : d ≠ 39 := fun e => h (by rw [e]; rfl)
    rw [scn, if_neg (fun e => hd e.2), if_pos rfl]
theorem scn_else {c : Nat} (h : c ≠ 39) (cs : List Nat) (a : Nat) (o : Int) :
    scn (c :: cs) a o = (((c : Int), decide (0 ≤ o), (a : Int)) :: (scn cs (a + (encN c).length) o).1, (scn cs (a + (encN c).length) o).2) := by
  cases cs with
  | nil => simp [scn, h]
  | cons d cs => rw [scn, if_neg (fun e => h e.1), if_neg h]
theorem tok_ind {P : List Nat → Prop} (h0 : P []) (h2 : ∀ cs, P cs → P (39 :: 39 :: cs)) (h1 : ∀ cs, cs.head? ≠ some 39 → P cs → P (39 :: cs)) (he : ∀ c cs, c ≠ 39 → P cs → P (c :: cs)) (cs : List Nat) : P cs := by
  have hgen : ∀ (n : Nat) (cs : List Nat), cs.length ≤ n → P cs := by
    intro n
    induction n with
    | zero => intro cs h; rw [List.eq_nil_of_length_eq_zero (by omega : cs.length = 0)]; exact h0
    | succ n ih =>
      intro cs h
      cases cs with
      | nil => exact h0
      | cons c cs =>
        simp only [List.length_cons] at h
        by_cases hc : c = 39
        · subst hc
          cases cs with
          | nil => exact h1 [] (by simp) h0
          | cons d cs =>
            simp only [List.length_cons] at h
            by_cases hd : d = 39
            · subst hd; exact h2 cs (ih cs (by omega))
            · exact h1 (d :: cs) (by simp [hd]) (ih _ (by simp only [List.length_cons]; omega))
        · exact he c cs hc (ih cs (by omega))
  exact hgen _ cs (Nat.le_refl _)
theorem scn_len (cs : List Nat) : ∀ (a : Nat) (o : Int), (scn cs a o).1.length ≤ cs.length := by
  induction cs using tok_ind with
  | h0 => intro a o; simp [scn_nil]
  | h2 cs ih => intro a o; rw [scn_two]; have := ih (a + 2) o; simp only [List.length_cons]; omega
  | h1 cs h ih => intro a o; rw [scn_one h]; have := ih (a + 1) (if o < 0 then (a : Int) else -1); simp only [List.length_cons]; omega
  | he c cs h ih => intro a o; rw [scn_else h]; have := ih (a + (encN c).length) o; simp only [List.length_cons]; omega
/-- Where quotes stand open, and where tokens stand: within the text. -/
theorem scn_range (cs : List Nat) : ∀ (a : Nat) (o : Int), -1 ≤ o → o ≤ (a : Int) + (encs cs).length →
    (-1 ≤ (scn cs a o).2 ∧ (scn cs a o).2 ≤ (a : Int) + (encs cs).length) ∧ ∀ t ∈ (scn cs a o).1, 0 ≤ t.2.2 ∧ t.2.2 ≤ (a : Int) + (encs cs).length := by
  induction cs using tok_ind with
  | h0 => intro a o h h'; exact ⟨⟨h, h'⟩, by simp [scn_nil]⟩
  | h2 cs ih =>
    intro a o h h'
    have e : (encs (39 :: 39 :: cs)).length = 2 + (encs cs).length := by
      rw [encs_cons, encs_cons, List.length_append, List.length_append]
      show 1 + (1 + _) = _
      omega
    rw [e] at h' ⊢
    rw [scn_two]
    obtain ⟨i1, i2⟩ := ih (a + 2) o h (by omega)
    refine ⟨⟨i1.1, by have := i1.2; omega⟩, ?_⟩
    intro t ht
    rcases List.mem_cons.1 ht with rfl | ht
    · refine ⟨?_, ?_⟩ <;> dsimp only <;> omega
    · have := i2 t ht; omega
  | h1 cs hh ih =>
    intro a o h h'
    have e : (encs (39 :: cs)).length = 1 + (encs cs).length := by
      rw [encs_cons, List.length_append]
      rfl
    rw [e] at h' ⊢
    rw [scn_one hh]
    obtain ⟨i1, i2⟩ := ih (a + 1) (if o < 0 then (a : Int) else -1) (by split <;> omega) (by split <;> omega)
    refine ⟨⟨i1.1, by have := i1.2; omega⟩, ?_⟩
    intro t ht
    have := i2 t ht; omega
  | he c cs hc ih =>
    intro a o h h'
    have e : (encs (c :: cs)).length = (encN c).length + (encs cs).length := by rw [encs_cons, List.length_append]
    rw [e] at h' ⊢
    rw [scn_else hc]
    obtain ⟨i1, i2⟩ := ih (a + (encN c).length) o h (by omega)
    refine ⟨⟨i1.1, by have := i1.2; omega⟩, ?_⟩
    intro t ht
    rcases List.mem_cons.1 ht with rfl | ht
    · refine ⟨?_, ?_⟩ <;> dsimp only <;> omega
    · have := i2 t ht; omega
/-- A token that may be handed to Print. -/
def mayT (t : Tok) : Bool := isZ t.1 && (t.2.1 || !decide (t.1 = 39))
theorem scn_may (cs : List Nat) : ∀ (a : Nat) (o : Int), allC cs = true → (scn cs a o).1.all mayT = true := by
  induction cs using tok_ind with
  | h0 => intro a o _; rfl
  | h2 cs ih =>
    intro a o h
    rw [scn_two, List.all_cons, ih _ _ (allC_cons.1 (allC_cons.1 h).2).2]
    rfl
  | h1 cs hh ih => intro a o h; rw [scn_one hh]; exact ih _ _ (allC_cons.1 h).2
  | he c cs hc ih =>
    intro a o h
    obtain ⟨h1, h2⟩ := allC_cons.1 h
    rw [scn_else hc, List.all_cons, ih _ _ h2, Bool.and_true]
    simp only [mayT, isZ_nat, h1, Bool.true_and, Bool.or_eq_true, Bool.not_eq_true', decide_eq_false_iff_not]
    exact .inr (by omega)
/-- But for places it makes no difference where a text stands. -/
theorem scn_same (cs : List Nat) : ∀ (a a' : Nat) (o o' : Int), (0 ≤ o ↔ 0 ≤ o') → (scn cs a o).1.map er = (scn cs a' o').1.map er ∧ (0 ≤ (scn cs a o).2 ↔ 0 ≤ (scn cs a' o').2) := by
  induction cs using tok_ind with
  | h0 => intro a a' o o' h; exact ⟨rfl, h⟩
  | h2 cs ih =>
    intro a a' o o' h
    obtain ⟨i1, i2⟩ := ih (a + 2) (a' + 2) o o' h
    rw [scn_two, scn_two]
    exact ⟨by rw [List.map_cons, List.map_cons, i1]; rfl, i2⟩
  | h1 cs hh ih =>
    intro a a' o o' h
    rw [scn_one hh, scn_one hh]
    exact ih _ _ _ _ (by split <;> split <;> omega)
  | he c cs hc ih =>
    intro a a' o o' h
    obtain ⟨i1, i2⟩ := ih (a + (encN c).length) (a' + (encN c).length) o o' h
    rw [scn_else hc, scn_else hc]
    refine ⟨?_, i2⟩
    rw [List.map_cons, List.map_cons, i1]
    simp only [er, decide_eq_decide.2 h]
/-- Quoted code points, each ' twice. -/
def dbl (row : List Int) : List Int := row.flatMap fun r => if r = 39 then [39, 39] else [r]
theorem dbl_nil : dbl [] = [] := rfl
theorem dbl_cons (r : Int) (row : List Int) : dbl (r :: row) = (if r = 39 then [39, 39] else [r]) ++ dbl row := by simp [dbl]
theorem dbl_append (xs ys : List Int) : dbl (xs ++ ys) = dbl xs ++ dbl ys := by simp [dbl]
theorem dbl_one (r : Int) : dbl [r] = if r = 39 then [39, 39] else [r] := by rw [dbl_cons, dbl_nil, List.append_nil]
theorem dbl_len (row : List Int) : (dbl row).length ≤ 2 * row.length := by
  induction row with
  | nil => simp [dbl_nil]
  | cons r row ih => rw [dbl_cons, List.length_append]; simp only [List.length_cons]; split <;> simp <;> omega
/-- A row of quoted code points as it is written. -/
def inQ (row : List Int) : List Int := if row.all (fun r => decide (r = 39)) then dbl row else 39 :: (dbl row ++ [39])
theorem inQ_len (row : List Int) : (inQ row).length ≤ 2 * row.length + 2 := by
  have := dbl_len row
  unfold inQ; split
  · omega
  · simp only [List.length_cons, List.length_append, List.length_nil]; omega
/-- Tokens as they are written, behind a row of quoted ones. -/
def prt : List Tok → List Int → List Int
  | [], row => inQ row
  | t :: ts, row => if t.2.1 then prt ts (row ++ [t.1]) else inQ row ++ t.1 :: prt ts []
theorem prt_nil (row : List Int) : prt [] row = inQ row := rfl
theorem prt_q {t : Tok} (h : t.2.1 = true) (ts : List Tok) (row : List Int) : prt (t :: ts) row = prt ts (row ++ [t.1]) := by rw [prt, if_pos h]
theorem prt_p {t : Tok} (h : t.2.1 = false) (ts : List Tok) (row : List Int) : prt (t :: ts) row = inQ row ++ t.1 :: prt ts [] := by rw [prt, if_neg (by rw [h]; decide)]
theorem prt_len (ts : List Tok) : ∀ row, (prt ts row).length ≤ 2 * row.length + 4 * ts.length + 2 := by
  induction ts with
  | nil => intro row; rw [prt_nil]; have := inQ_len row; simp only [List.length_nil]; omega
  | cons t ts ih =>
    intro row
    rcases ht : t.2.1 with _ | _
    · rw [prt_p ht]
      have := ih []
      have := inQ_len row
      simp only [List.length_cons, List.length_append, List.length_nil] at *; omega
    · rw [prt_q ht]
      have := ih (row ++ [t.1])
      simp only [List.length_cons, List.length_append, List.length_nil] at *; omega
theorem prt_er {ts : List Tok} : ∀ {ts' : List Tok} (row : List Int), ts.map er = ts'.map er → prt ts row = prt ts' row := by
  induction ts with
  | nil => intro ts' row h; cases ts' with
    | nil => rfl
    | cons t ts => cases h
  | cons t ts ih =>
    intro ts' row h
    cases ts' with
    | nil => cases h
    | cons t' ts' =>
      simp only [List.map_cons, List.cons.injEq, er, Prod.mk.injEq] at h
      obtain ⟨⟨h1, h2⟩, h3⟩ := h
      rcases ht : t.2.1 with _ | _
      · rw [prt_p ht, prt_p (h2 ▸ ht), h1, ih [] h3]
      · rw [prt_q ht, prt_q (h2 ▸ ht), h1, ih _ h3]
theorem may_er {ts : List Tok} : ∀ {ts' : List Tok}, ts.map er = ts'.map er → ts.all mayT = ts'.all mayT := by
  induction ts with
  | nil => intro ts' h; cases ts' with
    | nil => rfl
    | cons t ts => cases h
  | cons t ts ih =>
    intro ts' h
    cases ts' with
    | nil => cases h
    | cons t' ts' =>
      simp only [List.map_cons, List.cons.injEq, er, Prod.mk.injEq] at h
      obtain ⟨⟨h1, h2⟩, h3⟩ := h
      rw [List.all_cons, List.all_cons, ih h3, mayT, mayT, h1, h2]
theorem dbl_isZ (row : List Int) : (dbl row).all isZ = row.all isZ := by
  induction row with
  | nil => rfl
  | cons r row ih =>
    rw [dbl_cons, List.all_append, ih, List.all_cons]
    split
    · rename_i h; subst h; rfl
    · simp
theorem inQ_isZ (row : List Int) : (inQ row).all isZ = row.all isZ := by
  have h39 : isZ 39 = true := rfl
  unfold inQ; split
  · exact dbl_isZ row
  · rw [List.all_cons, List.all_append, dbl_isZ, h39]; simp [h39]
theorem prt_isZ (ts : List Tok) : ∀ row, (prt ts row).all isZ = (row.all isZ && ts.all fun t => isZ t.1) := by
  induction ts with
  | nil => intro row; rw [prt_nil, inQ_isZ]; simp
  | cons t ts ih =>
    intro row
    rcases ht : t.2.1 with _ | _
    · rw [prt_p ht, List.all_append, inQ_isZ, List.all_cons, ih, List.all_cons]; simp
    · rw [prt_q ht, ih, List.all_append, List.all_cons]; simp [Bool.and_assoc]
theorem may_isZ {ts : List Tok} (h : ts.all mayT = true) : (ts.all fun t => isZ t.1) = true := by
  refine List.all_eq_true.2 fun t ht => ?_
  have := List.all_eq_true.1 h t ht
  simp only [mayT, Bool.and_eq_true] at this
  exact this.1
theorem nats_cons (r : Int) (l : List Int) : nats (r :: l) = r.toNat :: nats l := rfl
theorem nats_append (xs ys : List Int) : nats (xs ++ ys) = nats xs ++ nats ys := by simp [nats]
theorem nats_nil : nats [] = [] := rfl
theorem isZ_39 {r : Int} (h : isZ r = true) : r.toNat = 39 ↔ r = 39 := by have := isZ_iff.1 h; omega
/-- Tokens and whether quotes are open, but for places. -/
def sck (cs : List Nat) (b : Bool) : List (Int × Bool) × Bool := ((scn cs 0 (if b then 0 else -1)).1.map er, decide (0 ≤ (scn cs 0 (if b then 0 else -1)).2))
theorem scn_sck (cs : List Nat) (a : Nat) (o : Int) : (scn cs a o).1.map er = (sck cs (decide (0 ≤ o))).1 ∧ decide (0 ≤ (scn cs a o).2) = (sck cs (decide (0 ≤ o))).2 := by
  have h : (0 ≤ o ↔ 0 ≤ (if decide (0 ≤ o) = true then (0 : Int) else -1)) := by
    by_cases h : 0 ≤ o
    · rw [decide_eq_true h]; simp [h]
    · rw [decide_eq_false h]; simp only [Bool.false_eq_true, if_false]; omega
  obtain ⟨h1, h2⟩ := scn_same cs a 0 o _ h
  exact ⟨h1, decide_eq_decide.2 h2⟩
theorem sck_nil (b : Bool) : sck [] b = ([], b) := by cases b <;> rfl
theorem sck_two (cs : List Nat) (b : Bool) : sck (39 :: 39 :: cs) b = ((39, true) :: (sck cs b).1, (sck cs b).2) := by
  obtain ⟨h1, h2⟩ := scn_sck cs (0 + 2) (if b then 0 else -1)
  have hb : decide (0 ≤ (if b then (0 : Int) else -1)) = b := by cases b <;> rfl
  rw [hb] at h1 h2
  rw [sck, scn_two, List.map_cons, h1, h2]; rfl
theorem sck_one {cs : List Nat} (h : cs.head? ≠ some 39) (b : Bool) : sck (39 :: cs) b = sck cs (!b) := by
  obtain ⟨h1, h2⟩ := scn_sck cs (0 + 1) (if (if b then (0 : Int) else -1) < 0 then ((0 : Nat) : Int) else -1)
  have hb : decide (0 ≤ (if (if b then (0 : Int) else -1) < 0 then ((0 : Nat) : Int) else -1)) = !b := by cases b <;> rfl
  rw [hb] at h1 h2
  rw [sck, scn_one h, h1, h2]
theorem sck_else {c : Nat} (h : c ≠ 39) (cs : List Nat) (b : Bool) : sck (c :: cs) b = (((c : Int), b) :: (sck cs b).1, (sck cs b).2) := by
  obtain ⟨h1, h2⟩ := scn_sck cs (0 + (encN c).length) (if b then 0 else -1)
  have hb : decide (0 ≤ (if b then (0 : Int) else -1)) = b := by cases b <;> rfl
  rw [hb] at h1 h2
  rw [sck, scn_else h, List.map_cons, h1, h2]
  simp only [er, hb]
theorem sck_within {row : List Int} (hz : row.all isZ = true) {rest : List Nat} (hr : rest.head? ≠ some 39) :
    sck (nats (dbl row) ++ 39 :: rest) true = (row.map (fun r => (r, true)) ++ (sck rest false).1, (sck rest false).2) := by
  induction row with
  | nil => rw [dbl_nil, nats_nil, List.nil_append, sck_one hr]; rfl
  | cons r row ih =>
    simp only [List.all_cons, Bool.and_eq_true] at hz
    rw [dbl_cons, nats_append, List.append_assoc]
    split
    · rename_i e; subst e
      show sck (39 :: 39 :: (nats (dbl row) ++ 39 :: rest)) true = _
      rw [sck_two, ih hz.2]; rfl
    · rename_i e
      show sck (r.toNat :: (nats (dbl row) ++ 39 :: rest)) true = _
      rw [sck_else (fun h => e ((isZ_39 hz.1).1 h)), ih hz.2]
      have := (isZ_iff.1 hz.1).1
      rw [Int.toNat_of_nonneg this]; rfl
theorem sck_row {row : List Int} (hz : row.all isZ = true) (hn : row.all (fun r => decide (r = 39)) = false) {rest : List Nat} (hr : rest.head? ≠ some 39) :
    sck (39 :: (nats (dbl row) ++ 39 :: rest)) false = (row.map (fun r => (r, true)) ++ (sck rest false).1, (sck rest false).2) := by
  induction row with
  | nil => cases hn
  | cons r row ih =>
    simp only [List.all_cons, Bool.and_eq_true] at hz
    rw [List.all_cons] at hn
    by_cases e : r = 39
    · subst e
      rw [dbl_cons, if_pos rfl, nats_append, List.append_assoc]
      show sck (39 :: 39 :: 39 :: (nats (dbl row) ++ 39 :: rest)) false = _
      rw [sck_two, ih hz.2 (by simpa using hn)]; rfl
    · rw [sck_one]
      · have h := sck_within (row := r :: row) (by simp [hz.1, hz.2]) hr
        exact h
      · rw [dbl_cons, if_neg e]
        show (some r.toNat : Option Nat) ≠ some 39
        intro h
        exact e ((isZ_39 hz.1).1 (Option.some.inj h))
theorem sck_all {row : List Int} (hn : row.all (fun r => decide (r = 39)) = true) (rest : List Nat) :
    sck (nats (dbl row) ++ rest) false = (row.map (fun r => (r, true)) ++ (sck rest false).1, (sck rest false).2) := by
  induction row with
  | nil => rfl
  | cons r row ih =>
    simp only [List.all_cons, Bool.and_eq_true, decide_eq_true_eq] at hn
    obtain ⟨rfl, h2⟩ := hn
    rw [dbl_cons, if_pos rfl, nats_append, List.append_assoc]
    show sck (39 :: 39 :: (nats (dbl row) ++ rest)) false = _
    rw [sck_two, ih h2]; rfl
theorem sck_inQ {row : List Int} (hz : row.all isZ = true) {rest : List Nat} (hr : rest.head? ≠ some 39) :
    sck (nats (inQ row) ++ rest) false = (row.map (fun r => (r, true)) ++ (sck rest false).1, (sck rest false).2) := by
  unfold inQ; split
  · rename_i h; exact sck_all h rest
  · rename_i h
    rw [nats_cons, nats_append, List.cons_append, List.append_assoc]
    exact sck_row hz (by simpa using h) hr
theorem sck_prt (ts : List Tok) : ∀ (row : List Int), row.all isZ = true → ts.all mayT = true → sck (nats (prt ts row)) false = (row.map (fun r => (r, true)) ++ ts.map er, false) := by
  induction ts with
  | nil =>
    intro row hz _
    have h := sck_inQ hz (rest := []) (by simp)
    rw [List.append_nil, sck_nil] at h
    rw [prt_nil, h]; rfl
  | cons t ts ih =>
    intro row hz hm
    rw [List.all_cons, Bool.and_eq_true] at hm
    obtain ⟨h1, h2⟩ := hm
    simp only [mayT, Bool.and_eq_true, Bool.or_eq_true, Bool.not_eq_true', decide_eq_false_iff_not] at h1
    obtain ⟨hc, hq⟩ := h1
    rcases ht : t.2.1 with _ | _
    · rw [ht] at hq
      have h39 : t.1 ≠ 39 := by rcases hq with h | h; cases h; exact h
      have hN : t.1.toNat ≠ 39 := fun h => h39 ((isZ_39 hc).1 h)
      rw [prt_p ht, nats_append, nats_cons, sck_inQ hz (by simp [hN]), sck_else hN, ih [] rfl h2, Int.toNat_of_nonneg (isZ_iff.1 hc).1]
      simp [er, ht]
    · rw [prt_q ht, ih _ (by rw [List.all_append, hz]; simp [hc]) h2]
      simp [er, ht]
/-- WHAT IS PRINTED IS SCANNED AS THE SAME TOKENS. -/
theorem scn_prt {ts : List Tok} (h : ts.all mayT = true) : (scn (nats (prt ts [])) 0 (-1)).1.map er = ts.map er ∧ (scn (nats (prt ts [])) 0 (-1)).2 < 0 := by
  obtain ⟨h1, h2⟩ := scn_sck (nats (prt ts [])) 0 (-1)
  have h3 := sck_prt ts [] rfl h
  rw [show decide (0 ≤ (-1 : Int)) = false from rfl, h3] at h1 h2
  exact ⟨h1, by simpa using h2⟩
/-- What Scan answers of a text of these bytes: tokens, the error, where. -/
def toks (l : List Nat) : List Tok × Int × Int :=
  if rst l ≠ [] then ([], 2, badZ l)
  else if 0 ≤ (scn (cps l) 0 (-1)).2 then ([], 3, (scn (cps l) 0 (-1)).2)
  else if 400 < (scn (cps l) 0 (-1)).1.length then ([], 8, 0)
  else ((scn (cps l) 0 (-1)).1, 0, 0)
theorem toks_spec {l : List Nat} (hl : ∀ b ∈ l, b < 256) : (toks l).1.all mayT = true ∧ (toks l).1.length ≤ 400 ∧ ((toks l).2.1 ≠ 0 → (toks l).1 = []) := by
  unfold toks
  split
  · exact ⟨rfl, by simp, fun _ => rfl⟩
  · split
    · exact ⟨rfl, by simp, fun _ => rfl⟩
    · split
      · exact ⟨rfl, by simp, fun _ => rfl⟩
      · exact ⟨scn_may _ _ _ (scan_spec l hl).2.1, by dsimp only; omega, fun h => absurd rfl h⟩
theorem toks_right {cs : List Nat} (h : allC cs = true) (ho : (scn cs 0 (-1)).2 < 0) (hn : (scn cs 0 (-1)).1.length ≤ 400) : toks (encs cs) = ((scn cs 0 (-1)).1, 0, 0) := by
  rw [toks, cps_encs h, if_neg (by simp [rst_encs h]), if_neg (by omega), if_neg (by omega)]
/-- What Print answers, as a text. -/
def prtZ (ts : List Tok) : ByteArray := if ts.all mayT then stz (encs (nats (prt ts []))) else stz []
theorem prtZ_may {ts : List Tok} (h : ts.all mayT = true) : prtZ ts = stz (encs (nats (prt ts []))) ∧ bts (prtZ ts) = encs (nats (prt ts [])) ∧ allC (nats (prt ts [])) = true ∧ (prt ts []).all isZ = true := by
  have hz : (prt ts []).all isZ = true := by rw [prt_isZ]; simp only [List.all_nil, Bool.true_and]; exact may_isZ h
  have hc := allC_nats hz
  have e : prtZ ts = stz (encs (nats (prt ts []))) := by rw [prtZ, if_pos h]
  exact ⟨e, by rw [e, bts_stz (encs_lt hc)], hc, hz⟩
theorem nats_length (l : List Int) : (nats l).length = l.length := by simp [nats]
theorem prtZ_size (ts : List Tok) : (prtZ ts).size ≤ 16 * ts.length + 8 := by
  unfold prtZ; split
  · rw [stz_size]
    have h1 := encs_len4 (nats (prt ts []))
    have h2 := prt_len ts []
    rw [nats_length] at h1
    simp only [List.length_nil] at h2
    omega
  · rw [stz_size]; simp
theorem prtZ_er {ts ts' : List Tok} (h : ts.map er = ts'.map er) : prtZ ts = prtZ ts' := by rw [prtZ, prtZ, may_er h, prt_er [] h]
theorem toks_prt {ts : List Tok} (h : ts.all mayT = true) (hn : ts.length ≤ 400) : ∃ ts', toks (bts (prtZ ts)) = (ts', 0, 0) ∧ ts'.map er = ts.map er := by
  obtain ⟨_, h2, h3, _⟩ := prtZ_may h
  obtain ⟨h5, h6⟩ := scn_prt h
  refine ⟨_, ?_, h5⟩
  rw [h2, toks_right h3 h6]
  have := congrArg List.length h5
  simp only [List.length_map] at this
  omega
end Go.Proofs.YtogipbgfnjbakaaDoor
