/-
  UG: digits of any system: plain facts.
-/
import Derived.Test.YtljgpdghpkpffaaMA
set_option maxRecDepth 100000
namespace Go.Proofs.Ytljgpdghpkpffaa
/-- May ten digits begin at z? -/
def sysZ (z : Int) : Bool := decide (0 ≤ z ∧ (z + 9 < 55296 ∨ (57344 ≤ z ∧ z + 9 ≤ 1114111)))
theorem sysZ_iff {z : Int} : sysZ z = true ↔ 0 ≤ z ∧ (z + 9 < 55296 ∨ (57344 ≤ z ∧ z + 9 ≤ 1114111)) := by simp [sysZ]
theorem sysZ_all {z : Int} (h : ∀ j : Nat, j < 10 → isZ (z + (j : Int)) = true) : sysZ z = true := by
  have h0 := isZ_iff.1 (h 0 (by omega))
  have h9 := isZ_iff.1 (h 9 (by omega))
  rw [sysZ_iff]
  omega
theorem sysZ_no {z : Int} {j : Nat} (hj : j < 10) (h : isZ (z + (j : Int)) = false) : sysZ z = false := by
  rcases hs : sysZ z with _ | _
  · rfl
  · have h1 := sysZ_iff.1 hs
    rw [isZ_iff.2 (by omega)] at h
    cases h
theorem sysZ_nat {z : Int} (h : sysZ z = true) : ∃ Z : Nat, z = (Z : Int) ∧ Z ≤ 1114102 := by
  have := sysZ_iff.1 h
  exact ⟨z.toNat, by omega, by omega⟩
theorem sysZ_at {Z d : Nat} (h : sysZ (Z : Int) = true) (hd : d < 10) : isC (Z + d) = true := by
  have := sysZ_iff.1 h
  rw [isC_iff]
  omega
/-- Is it one of the ten? -/
def inS (Z c : Nat) : Bool := decide (Z ≤ c) && decide (c < Z + 10)
theorem inS_iff {Z c : Nat} : inS Z c = true ↔ Z ≤ c ∧ c < Z + 10 := by simp [inS]
theorem inS_no {Z c : Nat} (h : inS Z c = false) : c < Z ∨ Z + 10 ≤ c := by
  rcases Nat.lt_or_ge c Z with h1 | h1
  · exact .inl h1
  · rcases Nat.lt_or_ge c (Z + 10) with h2 | h2
    · rw [inS_iff.2 ⟨h1, h2⟩] at h; cases h
    · exact .inr h2
theorem inS_isC {Z c : Nat} (hZ : sysZ (Z : Int) = true) (h : inS Z c = true) : isC c = true := by
  have h1 := inS_iff.1 h
  have := sysZ_at (d := c - Z) hZ (by omega)
  rwa [show Z + (c - Z) = c by omega] at this
/-- Is r one of the ten of z, a system's zero? What Is answers. -/
def isB (z r : Int) : Bool := sysZ z && (decide (z ≤ r) && decide (r < z + 10))
theorem isB_nat {Z : Nat} (hZ : sysZ (Z : Int) = true) (c : Nat) : isB (Z : Int) (c : Int) = inS Z c := by
  rw [isB, hZ, Bool.true_and, Bool.eq_iff_iff, inS_iff]
  simp only [Bool.and_eq_true, decide_eq_true_eq]
  omega
/-- The digits with which a text begins. -/
def dgt (Z : Nat) (l : List Nat) : List Nat := (cps l).takeWhile (inS Z)
/-- How many bytes they have. -/
def runN (Z : Nat) (l : List Nat) : Nat := (encs (dgt Z l)).length
/-- Digits as 0 to 9. -/
def low (Z : Nat) (cs : List Nat) : List Nat := cs.map fun c => c - Z + 48
theorem low_length (Z : Nat) (cs : List Nat) : (low Z cs).length = cs.length := by simp [low]
theorem low_append (Z : Nat) (us cs : List Nat) : low Z (us ++ cs) = low Z us ++ low Z cs := by simp [low]
theorem low_lt {Z : Nat} {cs : List Nat} (h : cs.all (inS Z) = true) : ∀ b ∈ low Z cs, b < 256 := by
  intro b hb
  obtain ⟨c, hc, rfl⟩ := List.mem_map.1 hb
  have := inS_iff.1 (List.all_eq_true.1 h c hc)
  omega
/-- What Get answers. -/
def getS (Z : Nat) (l : List Nat) : ByteArray := if 0 < l.length ∧ runN Z l = l.length then stz (low Z (cps l)) else ⟨#[]⟩
def getB (Z : Nat) (l : List Nat) : Bool := decide (0 < l.length ∧ runN Z l = l.length)
theorem tw_all {f : Nat → Bool} {cs : List Nat} (h : cs.all f = true) (t : List Nat) : (cs ++ t).takeWhile f = cs ++ t.takeWhile f := by
  induction cs with
  | nil => rfl
  | cons c cs ih =>
    rw [List.all_cons, Bool.and_eq_true] at h
    rw [List.cons_append, List.takeWhile_cons, h.1, if_pos rfl, ih h.2, List.cons_append]
theorem tw_self (f : Nat → Bool) (l : List Nat) : (l.takeWhile f).all f = true := by
  induction l with
  | nil => rfl
  | cons c l ih =>
    rw [List.takeWhile_cons]
    rcases hc : f c with _ | _
    · rfl
    · rw [if_pos rfl, List.all_cons, hc, ih]; rfl
theorem dgt_all (Z : Nat) (l : List Nat) : (dgt Z l).all (inS Z) = true := tw_self _ _
/-- A text of digits, and what is behind it. -/
theorem dgt_encs {Z : Nat} (hZ : sysZ (Z : Int) = true) {cs : List Nat} (h : cs.all (inS Z) = true) (t : List Nat) : dgt Z (encs cs ++ t) = cs ++ dgt Z t := by
  have hc : allC cs = true := List.all_eq_true.2 fun c hc => inS_isC hZ (List.all_eq_true.1 h c hc)
  rw [dgt, (scan_encs hc t).1, tw_all h, dgt]
theorem runN_encs {Z : Nat} (hZ : sysZ (Z : Int) = true) {cs : List Nat} (h : cs.all (inS Z) = true) (t : List Nat) : runN Z (encs cs ++ t) = (encs cs).length + runN Z t := by
  rw [runN, dgt_encs hZ h, encs_append, List.length_append, runN]
theorem runN_nil (Z : Nat) : runN Z [] = 0 := rfl
theorem runN_no {Z : Nat} {l : List Nat} (h : ∀ c, fstN l = some c → inS Z c = false) (hb : ∀ b ∈ l, b < 256) : dgt Z l = [] ∧ runN Z l = 0 := by
  have hd : dgt Z l = [] := by
    rcases hf : fstN l with _ | c
    · rw [dgt, (scan_none hf).1]; rfl
    · obtain ⟨h1, h2, _⟩ := fst_some hb hf
      have e := (scan_enc h1 (l.drop (encN c).length)).1
      rw [← h2] at e
      rw [dgt, e, List.takeWhile_cons, h c hf]
      rfl
  exact ⟨hd, by rw [runN, hd]; rfl⟩
theorem runN_le {Z : Nat} {l : List Nat} (hb : ∀ b ∈ l, b < 256) : runN Z l ≤ l.length := by
  have h := congrArg List.length (scan_spec l hb).1
  have h2 := congrArg (fun x => (encs x).length) (List.takeWhile_append_dropWhile (p := inS Z) (l := cps l))
  simp only [encs_append, List.length_append] at h h2
  unfold runN dgt
  omega
/-- As far as p all are digits. -/
def UptoS (Z : Nat) (s : ByteArray) (p : Nat) (cs : List Nat) : Prop := Upto s p cs ∧ cs.all (inS Z) = true
theorem UptoS.zero (Z : Nat) (s : ByteArray) : UptoS Z s 0 [] := ⟨Upto.zero s, rfl⟩
theorem UptoS.run {Z : Nat} (hZ : sysZ (Z : Int) = true) {s : ByteArray} {p : Nat} {cs : List Nat} (h : UptoS Z s p cs) :
    dgt Z (bts s) = cs ++ dgt Z ((bts s).drop p) ∧ runN Z (bts s) = p + runN Z ((bts s).drop p) := by
  have e := h.1.split
  have e1 := dgt_encs hZ h.2 ((bts s).drop p)
  have e2 := runN_encs hZ h.2 ((bts s).drop p)
  rw [← e] at e1 e2
  rw [h.1.len] at e2
  exact ⟨e1, e2⟩
theorem UptoS.stop {Z : Nat} (hZ : sysZ (Z : Int) = true) {s : ByteArray} {p : Nat} {cs : List Nat} (h : UptoS Z s p cs) (hn : ∀ c, fstN ((bts s).drop p) = some c → inS Z c = false) :
    dgt Z (bts s) = cs ∧ runN Z (bts s) = p := by
  have e := h.run hZ
  have e0 := runN_no hn (bts_drop_lt s p)
  rw [e0.1, List.append_nil] at e
  rw [e0.2] at e
  exact ⟨e.1, by omega⟩
theorem UptoS.end_ {Z : Nat} (hZ : sysZ (Z : Int) = true) {s : ByteArray} {p : Nat} {cs : List Nat} (h : UptoS Z s p cs) (hp : ¬ p < s.size) :
    dgt Z (bts s) = cs ∧ runN Z (bts s) = s.size ∧ cps (bts s) = cs ∧ p = s.size := by
  have hz := h.1.1
  have e : (bts s).drop p = [] := List.drop_eq_nil_of_le (by rw [bts_length]; omega)
  have h1 := h.stop hZ (fun c hc => by rw [e, fstN_nil] at hc; cases hc)
  exact ⟨h1.1, by rw [h1.2]; omega, (h.1.end_ hp).1, by omega⟩
theorem UptoS.step {Z : Nat} {s : ByteArray} {p : Nat} {cs : List Nat} (h : UptoS Z s p cs) {c : Nat} (hf : fstN ((bts s).drop p) = some c) (hc : inS Z c = true) : UptoS Z s (p + (encN c).length) (cs ++ [c]) :=
  ⟨(h.1.step hf).2.1, by rw [List.all_append, h.2]; simp [hc]⟩
/-- A text all of whose bytes are digits of a system is right up to its end. -/
theorem full_dgt {Z : Nat} {s : ByteArray} (h : runN Z (bts s) = s.size) : bts s = encs (cps (bts s)) ∧ (cps (bts s)).all (inS Z) = true := by
  have h1 := scan_spec (bts s) (bts_lt s)
  have hl := congrArg List.length h1.1
  have h2 := List.takeWhile_append_dropWhile (p := inS Z) (l := cps (bts s))
  have h3 := congrArg (fun x => (encs x).length) h2
  simp only [encs_append, List.length_append, bts_length] at hl h3
  have hr : (encs ((cps (bts s)).takeWhile (inS Z))).length = s.size := h
  have h4 : (cps (bts s)).dropWhile (inS Z) = [] := by
    have := encs_len ((cps (bts s)).dropWhile (inS Z))
    exact List.eq_nil_of_length_eq_zero (by omega)
  have h5 : rst (bts s) = [] := List.eq_nil_of_length_eq_zero (by omega)
  rw [h4, List.append_nil] at h2
  refine ⟨by rw [h5, List.append_nil] at h1; exact h1.1, ?_⟩
  rw [← h2]
  exact tw_self _ _
/-- The bytes of digits 0 to 9. -/
def okL (l : List Nat) : Bool := l.all (inS 48)
theorem sys48 : sysZ ((48 : Nat) : Int) = true := by decide
theorem okL_append {a b : List Nat} : okL (a ++ b) = true ↔ okL a = true ∧ okL b = true := by simp [okL]
theorem encs_asc {cs : List Nat} (h : ∀ c ∈ cs, c < 128) : encs cs = cs := by
  induction cs with
  | nil => rfl
  | cons c cs ih =>
    rw [encs_cons, ih fun x hx => h x (List.mem_cons_of_mem _ hx), encN, if_pos (h c (List.mem_cons_self ..))]
    rfl
theorem okL_lt {l : List Nat} (h : okL l = true) : ∀ c ∈ l, c < 128 := by
  intro c hc
  have := inS_iff.1 (List.all_eq_true.1 h c hc)
  omega
theorem okL_encs {l : List Nat} (h : okL l = true) : encs l = l := encs_asc (okL_lt h)
/-- Digits 0 to 9 as those of the system. -/
def hi (Z : Nat) (l : List Nat) : List Nat := l.map fun b => Z + (b - 48)
theorem hi_length (Z : Nat) (l : List Nat) : (hi Z l).length = l.length := by simp [hi]
theorem hi_append (Z : Nat) (a b : List Nat) : hi Z (a ++ b) = hi Z a ++ hi Z b := by simp [hi]
theorem hi_inS {Z : Nat} {l : List Nat} (h : okL l = true) : (hi Z l).all (inS Z) = true := by
  refine List.all_eq_true.2 fun c hc => ?_
  obtain ⟨b, hb, rfl⟩ := List.mem_map.1 hc
  have := inS_iff.1 (List.all_eq_true.1 h b hb)
  rw [inS_iff]
  omega
theorem all_isC {Z : Nat} (hZ : sysZ (Z : Int) = true) {cs : List Nat} (h : cs.all (inS Z) = true) : allC cs = true := List.all_eq_true.2 fun c hc => inS_isC hZ (List.all_eq_true.1 h c hc)
theorem hi_allC {Z : Nat} (hZ : sysZ (Z : Int) = true) {l : List Nat} (h : okL l = true) : allC (hi Z l) = true := all_isC hZ (hi_inS h)
theorem low_hi {Z : Nat} {l : List Nat} (h : okL l = true) : low Z (hi Z l) = l := by
  rw [low, hi, List.map_map]
  conv => rhs; rw [← List.map_id l]
  refine List.map_congr_left fun b hb => ?_
  have := inS_iff.1 (List.all_eq_true.1 h b hb)
  simp only [Function.comp, id]
  omega
/-- What Put answers. -/
def putS (Z : Nat) (l : List Nat) : ByteArray := if okL l = true then stz (encs (hi Z l)) else ⟨#[]⟩
theorem putS_ok {Z : Nat} {l : List Nat} (h : okL l = true) : putS Z l = stz (encs (hi Z l)) := by simp [putS, h]
theorem putS_no {Z : Nat} {l : List Nat} (h : okL l = false) : putS Z l = ⟨#[]⟩ := by simp [putS, h]
theorem bts_put {Z : Nat} (hZ : sysZ (Z : Int) = true) {l : List Nat} (h : okL l = true) : bts (putS Z l) = encs (hi Z l) := by
  rw [putS_ok h, bts_stz (encs_lt (hi_allC hZ h))]
theorem putS_size (Z : Nat) (l : List Nat) : (putS Z l).size ≤ 4 * l.length := by
  unfold putS
  split
  · rw [stz_size]
    refine Nat.le_trans (encs_len4 _) ?_
    rw [hi_length]
    exact Nat.le_refl _
  · exact Nat.zero_le _
theorem putS_append {Z : Nat} {a b : List Nat} (ha : okL a = true) (hb : okL b = true) : putS Z (a ++ b) = putS Z a ++ putS Z b := by
  rw [putS_ok ha, putS_ok hb, putS_ok (okL_append.2 ⟨ha, hb⟩), hi_append, encs_append, stz_append]
/-- A text read up to its end, all digits 0 to 9. -/
theorem UptoS.all48 {s : ByteArray} {p : Nat} {cs : List Nat} (h : UptoS 48 s p cs) (hp : ¬ p < s.size) : bts s = cs ∧ okL (bts s) = true := by
  have e := h.1.split
  rw [List.drop_eq_nil_of_le (by rw [bts_length]; omega), List.append_nil, okL_encs (l := cs) h.2] at e
  exact ⟨e, by rw [e]; exact h.2⟩
theorem okL_stop {s : ByteArray} {p : Nat} (hp : p < s.size) (hn : ∀ c, fstN ((bts s).drop p) = some c → inS 48 c = false) : okL (bts s) = false := by
  rcases ho : okL (bts s) with _ | _
  · rfl
  · exfalso
    have hlt : p < (bts s).length := by rw [bts_length]; exact hp
    have hd : inS 48 ((bts s)[p]) = true := List.all_eq_true.1 ho _ (List.getElem_mem hlt)
    have hd2 := inS_iff.1 hd
    have e : (bts s).drop p = encN ((bts s)[p]) ++ (bts s).drop (p + 1) := by
      rw [List.drop_eq_getElem_cons hlt, encN, if_pos (by omega)]
      rfl
    have hf := fst_enc (c := (bts s)[p]) (isC_iff.2 (by omega)) ((bts s).drop (p + 1))
    rw [← e] at hf
    rw [hn _ hf] at hd
    cases hd
/-- Get of the digits' own text. -/
theorem getS_encs {Z : Nat} (hZ : sysZ (Z : Int) = true) {cs : List Nat} (h : cs.all (inS Z) = true) (hne : cs ≠ []) : getS Z (encs cs) = stz (low Z cs) ∧ getB Z (encs cs) = true ∧ runN Z (encs cs) = (encs cs).length := by
  have hr := runN_encs hZ h []
  rw [List.append_nil, runN_nil, Nat.add_zero] at hr
  have hp : 0 < (encs cs).length := by
    have := encs_len cs
    rcases cs with _ | ⟨c, cs⟩
    · exact absurd rfl hne
    · simp at this; omega
  have hcond : 0 < (encs cs).length ∧ runN Z (encs cs) = (encs cs).length := ⟨hp, hr⟩
  refine ⟨?_, by rw [getB]; exact decide_eq_true hcond, hr⟩
  rw [getS, if_pos hcond, cps_encs (all_isC hZ h)]
theorem getS_no {Z : Nat} {l : List Nat} (h : ¬ (0 < l.length ∧ runN Z l = l.length)) : getS Z l = ⟨#[]⟩ ∧ getB Z l = false := ⟨if_neg h, decide_eq_false h⟩
/-- A code point's bytes behind digits end them, if it is none. -/
theorem runN_behind {Z : Nat} (hZ : sysZ (Z : Int) = true) {cs : List Nat} (h : cs.all (inS Z) = true) {c : Nat} (hc : isC c = true) (hn : inS Z c = false) (t : List Nat) : runN Z (encs cs ++ (encN c ++ t)) = (encs cs).length := by
  rw [runN_encs hZ h]
  have e : dgt Z (encN c ++ t) = [] := by
    rw [dgt, (scan_enc hc t).1, List.takeWhile_cons, hn]
    rfl
  rw [runN, e]
  rfl
end Go.Proofs.Ytljgpdghpkpffaa
