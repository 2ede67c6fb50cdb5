/-
  PA: elements and halves of a pattern, plain.
-/
import Derived.Test.YtbjelkejifgnfaaGreatDoorMC
set_option maxRecDepth 100000
namespace Go.Proofs.YtbjelkejifgnfaaGreatDoor
open Go.RowKit
/-- An element: its token (of padding: what is padded with, and the star's place), and whether it is padding. -/
abbrev El := Tok × Bool
/-- A plain character. -/
def plE (c : Int) (e : El) : Bool := !e.2 && (!e.1.2.1 && decide (e.1.1 = c))
/-- A plain character of a number. -/
def bdC (r : Int) : Bool := decide ((48 ≤ r ∧ r ≤ 57) ∨ r = 35 ∨ r = 64 ∨ r = 44 ∨ r = 46)
def bdy (e : El) : Bool := !e.2 && (!e.1.2.1 && bdC e.1.1)
def stT (t : Tok) : Bool := !t.2.1 && decide (t.1 = 42)
theorem bdC_mrk (r : Int) : bdC r = (mrk r && (decide (r ≠ 59) && decide (r ≠ 42))) := by
  rw [Bool.eq_iff_iff, Bool.and_eq_true, mrk_iff, Bool.and_eq_true, decide_eq_true_iff, decide_eq_true_iff, bdC, decide_eq_true_iff]
  omega
/-- The elements ahead of a star behind which nothing stands. -/
def elsL : List Tok → List El
  | [] => []
  | [t] => if stT t then [] else [(t, false)]
  | t :: u :: l => if stT t then ((u.1, false, t.2.2), true) :: elsL l else (t, false) :: elsL (u :: l)
/-- Where such a star stands. -/
def elsB : List Tok → Option Int
  | [] => none
  | [t] => if stT t then some t.2.2 else none
  | t :: u :: l => if stT t then elsB l else elsB (u :: l)
theorem elsL_no {t : Tok} (h : stT t = false) (l : List Tok) : elsL (t :: l) = (t, false) :: elsL l := by
  cases l with
  | nil => simp [elsL, h]
  | cons u l => rw [elsL, if_neg (by rw [h]; decide)]
theorem elsB_no {t : Tok} (h : stT t = false) (l : List Tok) : elsB (t :: l) = elsB l := by
  cases l with
  | nil => simp [elsB, h]
  | cons u l => rw [elsB, if_neg (by rw [h]; decide)]
theorem elsL_st {t : Tok} (h : stT t = true) (u : Tok) (l : List Tok) : elsL (t :: u :: l) = ((u.1, false, t.2.2), true) :: elsL l := by rw [elsL, if_pos h]
theorem elsB_st {t : Tok} (h : stT t = true) (u : Tok) (l : List Tok) : elsB (t :: u :: l) = elsB l := by rw [elsB, if_pos h]
theorem elsB_end {t : Tok} (h : stT t = true) : elsB [t] = some t.2.2 := by rw [elsB, if_pos h]
theorem elsL_end {t : Tok} (h : stT t = true) : elsL [t] = [] := by rw [elsL, if_pos h]
theorem els_ind {P : List Tok → Prop} (h0 : P []) (h1 : ∀ t l, stT t = false → P l → P (t :: l)) (h2 : ∀ t, stT t = true → P [t]) (h3 : ∀ t u l, stT t = true → P l → P (t :: u :: l)) (l : List Tok) : P l := by
  have : ∀ n (l : List Tok), l.length ≤ n → P l := by
    intro n
    induction n with
    | zero => intro l hl; obtain rfl := List.eq_nil_of_length_eq_zero (Nat.le_zero.1 hl); exact h0
    | succ n ih =>
      intro l hl
      match l with
      | [] => exact h0
      | [t] =>
        cases ht : stT t with
        | false => exact h1 _ _ ht h0
        | true => exact h2 _ ht
      | t :: u :: l =>
        cases ht : stT t with
        | false => exact h1 _ _ ht (ih _ (by simp at hl ⊢; omega))
        | true => exact h3 _ _ _ ht (ih _ (by simp at hl ⊢; omega))
  exact this _ l (Nat.le_refl _)
theorem elsL_len (l : List Tok) : (elsL l).length ≤ l.length := by
  refine els_ind (P := fun l => (elsL l).length ≤ l.length) (Nat.le_refl _) ?_ ?_ ?_ l
  · intro t l h ih; rw [elsL_no h]; simp; exact ih
  · intro t h; rw [elsL_end h]; simp
  · intro t u l h ih; rw [elsL_st h]; simp; omega
/-- Elements in range. -/
def RE (e : El) : Prop := R32 e.1 ∧ -9223372036854775808 ≤ e.1.2.2 ∧ e.1.2.2 ≤ 9223372036854775807
/-- What behind a half's number begins stands. -/
def bhd (l : List El) : List El :=
  match l.dropWhile bdy with
  | [] => []
  | e :: b => if plE 69 e then (match b with
    | [] => []
    | f :: c => if plE 43 f then c.dropWhile bdy else (f :: c).dropWhile bdy) else e :: b
def hpre (l : List El) : List El := l.takeWhile fun e => !bdy e
def hrst (l : List El) : List El := l.dropWhile fun e => !bdy e
def hsuf (l : List El) : List El := bhd (hrst l)
def hnum (l : List El) : List El := (hrst l).take ((hrst l).length - (hsuf l).length)
theorem drop_len {α : Type} (p : α → Bool) (l : List α) : (l.dropWhile p).length ≤ l.length := by
  have := List.dropWhile_suffix p (l := l)
  exact this.length_le
/-- It is an end of the list. -/
theorem bhd_suffix (l : List El) : bhd l <:+ l := by
  unfold bhd
  have h := List.dropWhile_suffix bdy (l := l)
  split
  · exact List.nil_suffix
  · rename_i e b he
    rw [he] at h
    split
    · split
      · exact List.nil_suffix
      · rename_i f c
        split
        · exact ((List.dropWhile_suffix bdy (l := c)).trans ((List.suffix_cons f c).trans (List.suffix_cons e _))).trans h
        · exact ((List.dropWhile_suffix bdy (l := f :: c)).trans (List.suffix_cons e _)).trans h
    · exact h
theorem hrst_num (l : List El) : hrst l = hnum l ++ hsuf l := by
  obtain ⟨t, ht⟩ := bhd_suffix (hrst l)
  have e : (hrst l).length - (bhd (hrst l)).length = t.length := by rw [← congrArg List.length ht, List.length_append]; omega
  have e2 : (hrst l).take t.length = t := by
    rw [← ht]
    exact List.take_left' rfl
  rw [hnum, hsuf, e, e2, ht]
theorem half_parts (l : List El) : l = hpre l ++ (hnum l ++ hsuf l) := by
  rw [← hrst_num, hpre, hrst, List.takeWhile_append_dropWhile]
/-- Which place an element of a half is, for padding. -/
def whr (first : Bool) (n en len i : Nat) : Int := if first = false then 0 else if i = 0 then 1 else if i + 1 = n then 2 else if i = en then 3 else if i + 1 = len then 4 else 0
/-- Where padding is, and with what, or the fault: at the i-th element, with what is left of the half. -/
def padR (W : Nat → Int) : Nat → List El → Int → Int → (Int × Int) × Int × Int
  | _, [], a, r => ((a, r), 0, 0)
  | i, e :: l, a, r => if e.2 then (if W i = 0 ∨ a ≠ 0 then ((0, 0), 7, e.1.2.2) else padR W (i + 1) l (W i) e.1.1) else padR W (i + 1) l a r
def padZ (first : Bool) (l : List El) : (Int × Int) × Int × Int := padR (whr first (hpre l).length ((hpre l).length + (hnum l).length) l.length) 0 l 0 0
/-- The tokens that are no padding. -/
def tksE (l : List El) : List Tok := (l.filter fun e => !e.2).map (·.1)
/-- A number's characters. -/
def chE (l : List El) : List Nat := l.map fun e => e.1.1.toNat
/-- What a half says. -/
structure Hf where
  pre : List Itm := []
  suf : List Itm := []
  num : NF := {}
  at_ : Int := 0
  pad : Int := 0
  long : Nat := 0
/-- How wide a half is, with padding. -/
def Hf.wid (a : Hf) : Nat := if a.at_ ≠ 0 then a.pre.length + a.long + a.suf.length else 0
def halfZ (first : Bool) (begin : Int) (l : List El) : Hf × Int × Int :=
  match hnum l with
  | [] => ({}, 4, begin)
  | e :: _ =>
    if (padZ first l).2.1 ≠ 0 then ({}, (padZ first l).2) else
    if (itms (tksE (hpre l))).2.1 ≠ 0 then ({}, (itms (tksE (hpre l))).2) else
    if (numZ (chE (hnum l))).2 ≠ 0 then ({}, ((numZ (chE (hnum l))).2 : Int), e.1.2.2) else
    if (itms (tksE (hsuf l))).2.1 ≠ 0 then ({}, (itms (tksE (hsuf l))).2) else
    (⟨(itms (tksE (hpre l))).1, (itms (tksE (hsuf l))).1, (numZ (chE (hnum l))).1, (padZ first l).1.1, (padZ first l).1.2, (hnum l).length⟩, 0, 0)
/-- What a pattern says. -/
structure Pt where
  pre : List Itm := []
  suf : List Itm := []
  neg : Bool := false
  npre : List Itm := []
  nsuf : List Itm := []
  num : NF := {}
  at_ : Int := 0
  pad : Int := 0
  width : Nat := 0
/-- Has one of its affixes an item of the kind? -/
def Pt.has (p : Pt) (k : Int) : Bool := p.pre.any (fun i => decide (i.1 = k)) || (p.suf.any (fun i => decide (i.1 = k)) || (p.npre.any (fun i => decide (i.1 = k)) || p.nsuf.any (fun i => decide (i.1 = k))))
def Pt.mix (p : Pt) : Pt × Int × Int := if p.has 4 && p.has 5 then ({}, 6, 0) else (p, 0, 0)
def Pt.mult (p : Pt) : Int := if p.has 4 then 2 else if p.has 5 then 3 else 0
def smi (e : El) : Bool := plE 59 e
/-- What stands ahead of the first semicolon, and from it on. -/
def fst16 (es : List El) : List El := es.takeWhile fun e => !smi e
def snd16 (es : List El) : List El := es.dropWhile fun e => !smi e
/-- A pattern of a first half, and of a first and a second one. -/
def one16 (a : Hf) : Pt := { pre := a.pre, suf := a.suf, npre := (2, 0) :: a.pre, nsuf := a.suf, num := a.num, at_ := a.at_, pad := a.pad, width := a.wid }
def two16 (a b : Hf) : Pt := { one16 a with neg := true, npre := b.pre, nsuf := b.suf }
/-- What the elements say as a pattern. -/
def compE (es : List El) : Pt × Int × Int :=
  match snd16 es with
  | [] => if (halfZ true 0 (fst16 es)).2.1 ≠ 0 then ({}, (halfZ true 0 (fst16 es)).2) else (one16 (halfZ true 0 (fst16 es)).1).mix
  | e :: r =>
    match snd16 r with
    | f :: _ => ({}, 4, f.1.2.2)
    | [] =>
      if (halfZ true 0 (fst16 es)).2.1 ≠ 0 then ({}, (halfZ true 0 (fst16 es)).2) else
      if (halfZ false (e.1.2.2 + 1) r).2.1 ≠ 0 then ({}, (halfZ false (e.1.2.2 + 1) r).2) else
      (two16 (halfZ true 0 (fst16 es)).1 (halfZ false (e.1.2.2 + 1) r).1).mix
/-- What Compile answers of bytes: a pattern, error, place. -/
def compZ (l : List Nat) : Pt × Int × Int :=
  if (toks l).2.1 ≠ 0 then ({}, (toks l).2) else
  match elsB (toks l).1 with
  | some a => ({}, 7, a)
  | none => compE (elsL (toks l).1)
end Go.Proofs.YtbjelkejifgnfaaGreatDoor
