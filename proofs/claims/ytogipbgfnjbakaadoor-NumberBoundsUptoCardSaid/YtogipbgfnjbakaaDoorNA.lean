/-
  NA: number parts of patterns, plain: what the document's Number answers of bytes, what its PrintNumber writes.
-/
import Derived.Test.YtogipbgfnjbakaaDoorUB
set_option maxRecDepth 100000
namespace Go.Proofs.YtogipbgfnjbakaaDoor
/-- The fields of a pattern that a number part tells. -/
structure NF where
  minInt : Nat := 0
  maxInt : Nat := 0
  minFrac : Nat := 0
  maxFrac : Nat := 0
  minSig : Nat := 0
  maxSig : Nat := 0
  prim : Nat := 0
  sec : Nat := 0
  inc : List Nat := []
  sci : Bool := false
  minExp : Nat := 0
  plus : Bool := false
deriving DecidableEq
def dg (c : Nat) : Bool := decide (48 ≤ c) && decide (c ≤ 57)
def h35 (c : Nat) : Bool := c == 35
def a64 (c : Nat) : Bool := c == 64
def z48 (c : Nat) : Bool := c == 48
/-- What may stand ahead of an E. -/
def okB (c : Nat) : Bool := h35 c || a64 c || c == 44 || c == 46 || dg c
/-- How many stand between commas, n ahead of them. -/
def spl : List Nat → Nat → List Nat
  | [], n => [n]
  | c :: t, n => if c = 44 then n :: spl t 0 else spl t (n + 1)
def rowsZ (A B C : Nat → Bool) (l : List Nat) : Bool := (((l.dropWhile A).dropWhile B).dropWhile C).isEmpty
def primZ (sz : List Nat) : Nat := if 1 < sz.length then sz.getD (sz.length - 1) 0 else 0
def secZ (sz : List Nat) : Nat := if 2 < sz.length then sz.getD (sz.length - 2) 0 else primZ sz
def incZ (l : List Nat) : List Nat := (l.filter fun c => !h35 c).dropWhile z48
/-- What stands behind an E, without a +. -/
def expT (e : List Nat) : List Nat := e.drop (if e.head? = some 43 then 1 else 0)
/-- What stands behind an E: an error, how many noughts, is there a +. -/
def expZ (e : List Nat) : Nat × Nat × Bool :=
  if (expT e).isEmpty || !(expT e).all z48 then (4, 0, false) else if 9 < (expT e).length then (8, 0, false) else (0, (expT e).length, decide (e.head? = some 43))
def bigN (p : NF) : Bool := decide (40 < p.minInt) || decide (40 < p.maxInt) || decide (40 < p.maxFrac) || decide (40 < p.maxSig) || decide (40 < p.prim) || decide (40 < p.sec) || decide (40 < p.inc.length)
/-- The last two errors. -/
def finN (mix : Bool) (p : NF) : NF × Nat := if mix then ({}, 6) else if bigN p then ({}, 8) else (p, 0)
def sigN (plain : List Nat) (sz : List Nat) (sci : Bool) (me : Nat) (plus : Bool) : NF :=
  { minSig := plain.countP a64, maxSig := (plain.dropWhile h35).length, prim := primZ sz, sec := secZ sz, sci := sci, minExp := me, plus := plus }
def digN (plain frac : List Nat) (sz : List Nat) (sci : Bool) (me : Nat) (plus : Bool) : NF :=
  { minInt := plain.countP dg, maxInt := if sci then plain.length else 0, minFrac := frac.countP dg, maxFrac := frac.length, prim := primZ sz, sec := secZ sz, inc := incZ (plain ++ frac), sci := sci, minExp := me, plus := plus }
/-- From the characters without commas on. -/
def numP (plain frac : List Nat) (point : Bool) (sz : List Nat) (sci : Bool) (me : Nat) (plus : Bool) : NF × Nat :=
  if (plain ++ frac).any a64 then
    if point || plain.any dg then ({}, 6)
    else if !rowsZ h35 a64 h35 plain then ({}, 4)
    else finN (sci && (decide (1 < sz.length) || decide (plain.head? = some 35))) (sigN plain sz sci me plus)
  else if !rowsZ h35 dg dg plain || !rowsZ dg h35 h35 frac then ({}, 4)
  else if !(incZ (plain ++ frac)).isEmpty && (decide (frac.countP dg < frac.length) || sci) then ({}, 6)
  else finN (sci && decide (1 < sz.length)) (digN plain frac sz sci me plus)
def pln (l : List Nat) : List Nat := l.filter fun c => c != 44
/-- From whole and fraction on. -/
def numW (whole frac : List Nat) (point : Bool) (sci : Bool) (me : Nat) (plus : Bool) : NF × Nat :=
  if frac.any (· == 46) || (point && frac.isEmpty) then ({}, 4)
  else if frac.any (· == 44) then ({}, 5)
  else if decide (1 < (spl whole 0).length) && (spl whole 0).any (· == 0) then ({}, 5)
  else if (pln whole ++ frac).isEmpty then ({}, 4)
  else numP (pln whole) frac point (spl whole 0) sci me plus
def upA (c : Nat) (l : List Nat) : List Nat := l.takeWhile (· != c)
def dnA (c : Nat) (l : List Nat) : List Nat := (l.dropWhile (· != c)).drop 1
/-- From what stands ahead of an E on. -/
def numB (body : List Nat) (sci : Bool) (me : Nat) (plus : Bool) : NF × Nat :=
  if !body.all okB then ({}, 4) else numW (upA 46 body) (dnA 46 body) (body.any (· == 46)) sci me plus
/-- What the document's Number answers. -/
def numZ (l : List Nat) : NF × Nat :=
  if l.any (· == 69) then
    if (expZ (dnA 69 l)).1 ≠ 0 then ({}, (expZ (dnA 69 l)).1) else numB (upA 69 l) true (expZ (dnA 69 l)).2.1 (expZ (dnA 69 l)).2.2
  else numB (upA 69 l) false 0 false
/-- Fields that a number part tells. -/
structure OkN (p : NF) : Prop where
  exp : (p.sci = true ∧ 1 ≤ p.minExp ∧ p.minExp ≤ 9) ∨ (p.sci = false ∧ p.minExp = 0 ∧ p.plus = false)
  grp : (p.prim = 0 ∧ p.sec = 0) ∨ (1 ≤ p.prim ∧ 1 ≤ p.sec ∧ p.sci = false)
  big : bigN p = false
  kind : ((1 ≤ p.minSig ∧ p.minSig ≤ p.maxSig) ∧ p.minInt = 0 ∧ p.maxInt = 0 ∧ p.minFrac = 0 ∧ p.maxFrac = 0 ∧ p.inc = []) ∨
    ((p.minSig = 0 ∧ p.maxSig = 0) ∧ p.minFrac ≤ p.maxFrac ∧ ((p.sci = true ∧ p.minInt ≤ p.maxInt ∧ 0 < p.maxInt + p.maxFrac) ∨ (p.sci = false ∧ p.maxInt = 0)) ∧
      (p.inc = [] ∨ (p.inc.length ≤ p.minInt + p.minFrac ∧ p.inc.all dg = true ∧ p.inc.head? ≠ some 48 ∧ p.minFrac = p.maxFrac ∧ p.sci = false)))
/-- How many digits a number part without Inc's noughts has: noughts, and Inc. -/
def dgs (p : NF) : List Nat := List.replicate (p.minInt + p.minFrac - p.inc.length) 48 ++ p.inc
def baseN (p : NF) : List Nat := (dgs p).take p.minInt ++ (List.replicate p.minSig 64 ++ List.replicate (p.maxSig - p.minSig) 35)
def leastN (p : NF) : Nat := if p.sci && p.minSig == 0 then p.maxInt else if 0 < p.prim then p.prim + 1 + (if p.sec ≠ p.prim then p.sec else 0) else if p.maxFrac = 0 then 1 else 0
def whl (p : NF) (m : Nat) : List Nat := (if p.sci then [] else List.replicate m 35) ++ (List.replicate (leastN p - (baseN p).length) 35 ++ baseN p)
/-- Commas ahead of the last P, and of the last P + S, of what isn't ahead of all. -/
def cmZ (P S : Nat) : List Nat → List Nat
  | [] => []
  | c :: t => (if 0 < P ∧ (t.length + 1 = P ∨ (S ≠ P ∧ t.length + 1 = P + S)) then [44] else []) ++ c :: cmZ P S t
def cmW (P S : Nat) : List Nat → List Nat
  | [] => []
  | c :: t => c :: cmZ P S t
def frcN (p : NF) : List Nat := (dgs p).drop p.minInt ++ List.replicate (p.maxFrac - p.minFrac) 35
def expN (p : NF) : List Nat := (if p.plus then [43] else []) ++ List.replicate p.minExp 48
/-- What the document's PrintNumber writes. -/
def prN (p : NF) (m : Nat) : List Nat := cmW p.prim p.sec (whl p m) ++ ((if 0 < p.maxFrac then 46 :: frcN p else []) ++ (if p.sci then 69 :: expN p else []))
/- What is printed, parsed. -/
/-- What stands in a whole part without commas. -/
def okW (c : Nat) : Bool := h35 c || a64 c || dg c
theorem okW_ne {c : Nat} (h : okW c = true) : c ≠ 44 ∧ c ≠ 46 ∧ c ≠ 69 := by
  simp only [okW, h35, a64, dg, Bool.or_eq_true, Bool.and_eq_true, decide_eq_true_iff, beq_iff_eq] at h
  omega
theorem okW_okB {c : Nat} (h : okW c = true) : okB c = true := by
  simp only [okW, okB, Bool.or_eq_true] at h ⊢
  rcases h with (h | h) | h <;> simp [h]
theorem cmZ_nil_P (S : Nat) (l : List Nat) : cmZ 0 S l = l := by
  induction l with
  | nil => rfl
  | cons c t ih => rw [cmZ, ih]; simp
theorem pln_cons_ne {c : Nat} {l : List Nat} (h : c ≠ 44) : pln (c :: l) = c :: pln l := by simp [pln, h]
theorem pln_comma (l : List Nat) : pln (44 :: l) = pln l := by simp [pln]
theorem cmZ_pln (P S : Nat) {l : List Nat} (h : ∀ c ∈ l, c ≠ 44) : pln (cmZ P S l) = l := by
  induction l with
  | nil => rfl
  | cons c t ih =>
    have ht := ih fun x hx => h x (List.mem_cons_of_mem _ hx)
    have hc := h c (List.mem_cons_self ..)
    rw [cmZ]
    split
    · show pln (44 :: c :: cmZ P S t) = _
      rw [pln_comma, pln_cons_ne hc, ht]
    · show pln (c :: cmZ P S t) = _
      rw [pln_cons_ne hc, ht]
theorem cmW_pln (P S : Nat) {l : List Nat} (h : ∀ c ∈ l, c ≠ 44) : pln (cmW P S l) = l := by
  cases l with
  | nil => rfl
  | cons c t => rw [cmW, pln_cons_ne (h c (List.mem_cons_self ..)), cmZ_pln P S fun x hx => h x (List.mem_cons_of_mem _ hx)]
theorem cmZ_spl {P S : Nat} (hP : 1 ≤ P) (hS : 1 ≤ S) {l : List Nat} (h : ∀ c ∈ l, c ≠ 44) : ∀ k, spl (cmZ P S l) k =
    if l.length < P then [k + l.length] else if S = P ∨ l.length < P + S then [k + (l.length - P), P] else [k + (l.length - P - S), S, P] := by
  induction l with
  | nil => intro k; rw [if_pos (show ([] : List Nat).length < P from hP)]; rfl
  | cons c t ih =>
    intro k
    have ht := ih fun x hx => h x (List.mem_cons_of_mem _ hx)
    have hc := h c (List.mem_cons_self ..)
    rw [cmZ]
    by_cases hcm : 0 < P ∧ (t.length + 1 = P ∨ (S ≠ P ∧ t.length + 1 = P + S))
    · rw [if_pos hcm]
      show spl (44 :: c :: cmZ P S t) k = _
      rw [spl, if_pos rfl, spl, if_neg hc, ht, List.length_cons]
      rcases hcm.2 with h1 | ⟨h1, h2⟩
      · rw [if_pos (by omega), if_neg (by omega), if_pos (by omega)]
        congr 1
        · omega
        · congr 1; omega
      · rw [if_neg (by omega), if_pos (by omega), if_neg (by omega), if_neg (by omega)]
        congr 1
        · omega
        · congr 1; omega
    · rw [if_neg hcm]
      show spl (c :: cmZ P S t) k = _
      rw [spl, if_neg hc, ht, List.length_cons]
      by_cases h1 : t.length + 1 < P
      · rw [if_pos (by omega), if_pos h1]; congr 1; omega
      · rw [if_neg h1]
        have h2 : ¬ t.length < P := by omega
        rw [if_neg h2]
        by_cases h3 : S = P ∨ t.length + 1 < P + S
        · rw [if_pos h3, if_pos (by omega)]; congr 1; omega
        · rw [if_neg h3, if_neg (by omega)]; congr 1; omega
theorem spl_none {l : List Nat} (h : ∀ c ∈ l, c ≠ 44) : ∀ k, spl l k = [k + l.length] := by
  induction l with
  | nil => intro k; rfl
  | cons c t ih =>
    intro k
    rw [spl, if_neg (h c (List.mem_cons_self ..)), ih (fun x hx => h x (List.mem_cons_of_mem _ hx)), List.length_cons]
    congr 1; omega
/-- The sizes of what is printed. -/
theorem cmW_spl {P S : Nat} {l : List Nat} (h : ∀ c ∈ l, c ≠ 44) (hg : (P = 0 ∧ S = 0) ∨ (1 ≤ P ∧ 1 ≤ S)) (hl : 0 < P → P + 1 + (if S ≠ P then S else 0) ≤ l.length) :
    primZ (spl (cmW P S l) 0) = P ∧ secZ (spl (cmW P S l) 0) = S ∧ (1 < (spl (cmW P S l) 0).length ↔ 0 < P) ∧ (1 < (spl (cmW P S l) 0).length → (spl (cmW P S l) 0).any (· == 0) = false) := by
  rcases hg with ⟨rfl, rfl⟩ | ⟨hP, hS⟩
  · have e : cmW 0 0 l = l := by cases l with
      | nil => rfl
      | cons c t => rw [cmW, cmZ_nil_P]
    rw [e, spl_none h]
    exact ⟨rfl, rfl, by simp, by simp⟩
  · have hl' := hl (by omega)
    cases l with
    | nil => simp at hl'
    | cons c t =>
      rw [List.length_cons] at hl'
      rw [cmW, spl, if_neg (h c (List.mem_cons_self ..)), cmZ_spl hP hS (fun x hx => h x (List.mem_cons_of_mem _ hx))]
      by_cases hSP : S = P
      · rw [if_neg (show ¬ S ≠ P from fun e => e hSP)] at hl'
        rw [if_neg (by omega), if_pos (.inl hSP)]
        refine ⟨rfl, ?_, by simp; omega, fun _ => ?_⟩
        · subst hSP; rfl
        · simp; omega
      · rw [if_pos hSP] at hl'
        rw [if_neg (by omega), if_neg (by omega)]
        refine ⟨rfl, rfl, by simp; omega, fun _ => ?_⟩
        simp; omega
end Go.Proofs.YtogipbgfnjbakaaDoor
