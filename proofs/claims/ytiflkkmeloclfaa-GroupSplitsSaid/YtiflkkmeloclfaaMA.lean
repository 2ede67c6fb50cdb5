/-
  MA: UA, UB, UC.
-/
import Derived.Lib.DecodeN
import Derived.Laws.Cover4
import Derived.Lib.OthersKept
import Derived.Test.YtiflkkmeloclfaaKA
/- UA -/
/-
  UA: UTF-8 over lists of numbers: code points, their bytes, the first one of a text, all of them.
-/
set_option maxRecDepth 100000
namespace Go.Proofs.Ytiflkkmeloclfaa
/-- Is it a code point? -/
def isC (c : Nat) : Bool := decide (c < 55296) || (decide (57344 ≤ c) && decide (c ≤ 1114111))
theorem isC_iff {c : Nat} : isC c = true ↔ c < 55296 ∨ (57344 ≤ c ∧ c ≤ 1114111) := by simp [isC]
theorem isC_le {c : Nat} (h : isC c = true) : c ≤ 1114111 := by have := isC_iff.1 h; omega
/-- Is the rune r a code point? -/
def isZ (r : Int) : Bool := decide (0 ≤ r) && isC r.toNat
theorem isZ_nat (c : Nat) : isZ (c : Int) = isC c := by simp [isZ]
theorem isZ_iff {r : Int} : isZ r = true ↔ 0 ≤ r ∧ (r < 55296 ∨ (57344 ≤ r ∧ r ≤ 1114111)) := by
  simp only [isZ, Bool.and_eq_true, decide_eq_true_eq, isC_iff]; omega
theorem isZ_valid (r : Int) : Utf8.valid r = isZ r := by
  rw [Bool.eq_iff_iff, isZ_iff]
  simp only [Utf8.valid, Bool.or_eq_true, Bool.and_eq_true, decide_eq_true_eq]
  omega
/-- A code point's bytes. -/
def encN (c : Nat) : List Nat :=
  if c < 128 then [c] else if c < 2048 then [192 + c / 64, 128 + c % 64] else if c < 65536 then [224 + c / 4096, 128 + c / 64 % 64, 128 + c % 64]
  else [240 + c / 262144, 128 + c / 4096 % 64, 128 + c / 64 % 64, 128 + c % 64]
theorem encN_cases (c : Nat) : (c < 128 ∧ encN c = [c]) ∨ (128 ≤ c ∧ c < 2048 ∧ encN c = [192 + c / 64, 128 + c % 64]) ∨ (2048 ≤ c ∧ c < 65536 ∧ encN c = [224 + c / 4096, 128 + c / 64 % 64, 128 + c % 64]) ∨
    (65536 ≤ c ∧ encN c = [240 + c / 262144, 128 + c / 4096 % 64, 128 + c / 64 % 64, 128 + c % 64]) := by
  unfold encN
  by_cases h1 : c < 128
  · exact .inl ⟨h1, if_pos h1⟩
  · rw [if_neg h1]
    by_cases h2 : c < 2048
    · exact .inr (.inl ⟨by omega, h2, if_pos h2⟩)
    · rw [if_neg h2]
      by_cases h3 : c < 65536
      · exact .inr (.inr (.inl ⟨by omega, h3, if_pos h3⟩))
      · exact .inr (.inr (.inr ⟨by omega, if_neg h3⟩))
theorem encN_pos (c : Nat) : 1 ≤ (encN c).length := by rcases encN_cases c with ⟨_, h⟩ | ⟨_, _, h⟩ | ⟨_, _, h⟩ | ⟨_, h⟩ <;> rw [h] <;> simp
theorem encN_le (c : Nat) : (encN c).length ≤ 4 := by rcases encN_cases c with ⟨_, h⟩ | ⟨_, _, h⟩ | ⟨_, _, h⟩ | ⟨_, h⟩ <;> rw [h] <;> simp
theorem encN_lt {c : Nat} (hc : isC c = true) : ∀ b ∈ encN c, b < 256 := by
  have := isC_le hc
  rcases encN_cases c with ⟨_, h⟩ | ⟨_, _, h⟩ | ⟨_, _, h⟩ | ⟨_, h⟩ <;> rw [h] <;> simp <;> omega
/-- Behind the first one all bytes of a code point are 80 to bf. -/
theorem encN_tail (c k : Nat) (hk : 0 < k) (hl : k < (encN c).length) : ∃ b, (encN c)[k]? = some b ∧ 128 ≤ b ∧ b < 192 := by
  rcases encN_cases c with ⟨_, h⟩ | ⟨_, _, h⟩ | ⟨_, _, h⟩ | ⟨_, h⟩ <;> rw [h] at hl ⊢ <;> simp at hl
  · omega
  · obtain rfl : k = 1 := by omega
    exact ⟨_, rfl, by omega, by omega⟩
  · rcases (by omega : k = 1 ∨ k = 2) with rfl | rfl
    · exact ⟨_, rfl, by omega, by omega⟩
    · exact ⟨_, rfl, by omega, by omega⟩
  · rcases (by omega : k = 1 ∨ k = 2 ∨ k = 3) with rfl | rfl | rfl
    · exact ⟨_, rfl, by omega, by omega⟩
    · exact ⟨_, rfl, by omega, by omega⟩
    · exact ⟨_, rfl, by omega, by omega⟩
/-- The model's way over a list. -/
def decL (l : List Nat) : Nat × Nat := Lib.decodeN l.length (l.getD 0 0) (l.getD 1 0) (l.getD 2 0) (l.getD 3 0)
theorem dec_enc {c : Nat} (hc : isC c = true) (t : List Nat) : decL (encN c ++ t) = (c, (encN c).length) := by
  have hc' := isC_iff.1 hc
  unfold decL
  rcases encN_cases c with ⟨h1, h⟩ | ⟨h0, h1, h⟩ | ⟨h0, h1, h⟩ | ⟨h0, h⟩
  · rw [h]; simp [Lib.decodeN, h1]
  · rw [h]
    simp only [List.cons_append, List.nil_append, List.length_cons, List.length_nil, List.getD_cons_zero, List.getD_cons_succ, Lib.decodeN]
    rw [if_neg (by omega), if_pos (by omega), if_pos (by omega)]
    exact Prod.ext (by simp only; omega) rfl
  · rw [h]
    simp only [List.cons_append, List.nil_append, List.length_cons, List.length_nil, List.getD_cons_zero, List.getD_cons_succ, Lib.decodeN]
    have e : (224 + c / 4096) % 16 * 4096 + (128 + c / 64 % 64) % 64 * 64 + (128 + c % 64) % 64 = c := by omega
    rw [e, if_neg (by omega), if_neg (by omega), if_pos (by omega), if_pos (by omega)]
  · rw [h]
    simp only [List.cons_append, List.nil_append, List.length_cons, List.length_nil, List.getD_cons_zero, List.getD_cons_succ, Lib.decodeN]
    have e : (240 + c / 262144) % 8 * 262144 + (128 + c / 4096 % 64) % 64 * 4096 + (128 + c / 64 % 64) % 64 * 64 + (128 + c % 64) % 64 = c := by omega
    rw [e, if_neg (by omega), if_neg (by omega), if_neg (by omega), if_pos (by omega), if_pos (by omega)]
/-- The code point whose bytes a text begins with. -/
def fstN (l : List Nat) : Option Nat := if l.length = 0 ∨ decL l = (65533, 1) then none else some (decL l).1
theorem fst_enc {c : Nat} (hc : isC c = true) (t : List Nat) : fstN (encN c ++ t) = some c := by
  have h := encN_pos c
  unfold fstN
  rw [dec_enc hc, if_neg]
  rintro (h1 | h1)
  · rw [List.length_append] at h1; omega
  · obtain ⟨rfl, h2⟩ := Prod.mk.inj h1
    revert h2; decide
theorem fstN_nil : fstN [] = none := by simp [fstN]
theorem cons_of_getD (l : List Nat) (n : Nat) (hn : n ≤ l.length) : l.take n = (List.range n).map fun j => l.getD j 0 := by
  apply List.ext_getElem
  · simp; omega
  · intro i h1 h2
    simp at h1
    simp [List.getD, List.getElem?_eq_getElem (show i < l.length by omega)]
theorem dec_good {l : List Nat} (hb : ∀ b ∈ l, b < 256) (hp : 0 < l.length) (h : decL l ≠ (65533, 1)) :
    isC (decL l).1 = true ∧ (encN (decL l).1).length = (decL l).2 ∧ l.take (decL l).2 = encN (decL l).1 := by
  have hg : ∀ k, l.getD k 0 < 256 := by
    intro k
    rcases Nat.lt_or_ge k l.length with hk | hk
    · rw [List.getD, List.getElem?_eq_getElem hk]; exact hb _ (List.getElem_mem hk)
    · rw [List.getD, List.getElem?_eq_none hk]; decide
  have h0 := hg 0; have h1 := hg 1; have h2 := hg 2; have h3 := hg 3
  have hr : ∀ n, n ≤ l.length → l.take n = (List.range n).map fun j => l.getD j 0 := cons_of_getD l
  have hr1 := hr 1; have hr2 := hr 2; have hr3 := hr 3; have hr4 := hr 4
  simp only [List.range, List.range.loop, List.map_cons, List.map_nil] at hr1 hr2 hr3 hr4
  clear hg hb hr
  revert h
  unfold decL Lib.decodeN
  generalize l.getD 0 0 = b0 at *
  generalize l.getD 1 0 = b1 at *
  generalize l.getD 2 0 = b2 at *
  generalize l.getD 3 0 = b3 at *
  generalize l.length = n at *
  intro h
  split at h
  · rename_i c1
    rw [if_pos c1]
    have e : encN b0 = [b0] := by unfold encN; rw [if_pos c1]
    simp only [e, isC_iff]
    exact ⟨by omega, rfl, hr1 (by omega)⟩
  · rename_i c1
    rw [if_neg c1]
    split at h
    · rename_i c2
      rw [if_pos c2]
      split at h
      · rename_i c3
        rw [if_pos c3]
        have e : encN (b0 % 32 * 64 + b1 % 64) = [b0, b1] := by
          unfold encN
          rw [if_neg (by omega), if_pos (by omega)]
          simp only [List.cons.injEq, and_true]
          omega
        simp only [e, isC_iff]
        exact ⟨by omega, rfl, (hr2 (by omega))⟩
      · exact absurd rfl h
    · rename_i c2
      rw [if_neg c2]
      split at h
      · rename_i c3
        rw [if_pos c3]
        split at h
        · rename_i c4
          rw [if_pos c4]
          have e : encN (b0 % 16 * 4096 + b1 % 64 * 64 + b2 % 64) = [b0, b1, b2] := by
            unfold encN
            rw [if_neg (by omega), if_neg (by omega), if_pos (by omega)]
            simp only [List.cons.injEq, and_true]
            omega
          simp only [e, isC_iff]
          exact ⟨by omega, rfl, (hr3 (by omega))⟩
        · exact absurd rfl h
      · rename_i c3
        rw [if_neg c3]
        split at h
        · rename_i c4
          rw [if_pos c4]
          split at h
          · rename_i c5
            rw [if_pos c5]
            have e : encN (b0 % 8 * 262144 + b1 % 64 * 4096 + b2 % 64 * 64 + b3 % 64) = [b0, b1, b2, b3] := by
              unfold encN
              rw [if_neg (by omega), if_neg (by omega), if_neg (by omega)]
              simp only [List.cons.injEq, and_true]
              omega
            simp only [e, isC_iff]
            exact ⟨by omega, rfl, (hr4 (by omega))⟩
          · exact absurd rfl h
        · exact absurd rfl h
theorem fst_some {l : List Nat} (hb : ∀ b ∈ l, b < 256) {c : Nat} (h : fstN l = some c) : isC c = true ∧ l = encN c ++ l.drop (encN c).length ∧ decL l = (c, (encN c).length) := by
  unfold fstN at h
  split at h
  · cases h
  · rename_i hn
    simp only [not_or] at hn
    obtain ⟨h1, h2, h3⟩ := dec_good hb (by omega) hn.2
    obtain rfl : (decL l).1 = c := Option.some.inj h
    refine ⟨h1, ?_, Prod.ext rfl h2.symm⟩
    rw [h2]
    conv => lhs; rw [← List.take_append_drop (decL l).2 l]
    rw [h3]
theorem fst_none {l : List Nat} (h : fstN l = none) (hp : 0 < l.length) : decL l = (65533, 1) := by
  unfold fstN at h
  split at h
  · rename_i hn
    exact hn.resolve_left (by omega)
  · cases h
theorem fst_none_iff {l : List Nat} (hb : ∀ b ∈ l, b < 256) : fstN l = none ↔ ∀ c t, isC c = true → l ≠ encN c ++ t := by
  constructor
  · intro h c t hc e
    rw [e, fst_enc hc] at h
    cases h
  · intro h
    rcases hf : fstN l with _ | c
    · rfl
    · obtain ⟨h1, h2, _⟩ := fst_some hb hf
      exact absurd h2 (h c _ h1)
/-- The bytes of many. -/
def encs (cs : List Nat) : List Nat := cs.flatMap encN
theorem encs_nil : encs [] = [] := rfl
theorem encs_cons (c : Nat) (cs : List Nat) : encs (c :: cs) = encN c ++ encs cs := rfl
theorem encs_append (us bs : List Nat) : encs (us ++ bs) = encs us ++ encs bs := by simp [encs]
theorem encs_one (c : Nat) : encs [c] = encN c := by simp [encs]
theorem encs_len (cs : List Nat) : cs.length ≤ (encs cs).length := by
  induction cs with
  | nil => simp
  | cons c cs ih => rw [encs_cons]; have := encN_pos c; simp; omega
theorem encs_len4 (cs : List Nat) : (encs cs).length ≤ 4 * cs.length := by
  induction cs with
  | nil => simp [encs]
  | cons c cs ih => rw [encs_cons]; have := encN_le c; simp; omega
/-- Are all code points? -/
def allC (cs : List Nat) : Bool := cs.all isC
theorem allC_cons {c : Nat} {cs : List Nat} : allC (c :: cs) = true ↔ isC c = true ∧ allC cs = true := by simp [allC]
theorem allC_append {us bs : List Nat} : allC (us ++ bs) = true ↔ allC us = true ∧ allC bs = true := by simp [allC]
theorem allC_nil : allC [] = true := rfl
theorem encs_lt {cs : List Nat} (h : allC cs = true) : ∀ b ∈ encs cs, b < 256 := by
  intro b hb
  obtain ⟨c, hc, hb⟩ := List.mem_flatMap.1 hb
  exact encN_lt (List.all_eq_true.1 h c hc) b hb
/-- A text, read from its beginning on: its code points, and what is left where none begins. -/
def scanN : Nat → List Nat → List Nat × List Nat
  | 0, l => ([], l)
  | n + 1, l => match fstN l with
    | none => ([], l)
    | some c => (c :: (scanN n (l.drop (encN c).length)).1, (scanN n (l.drop (encN c).length)).2)
theorem scanN_fuel : ∀ (n m : Nat) (l : List Nat), l.length ≤ n → l.length ≤ m → scanN n l = scanN m l
  | 0, 0, l, _, _ => rfl
  | 0, m + 1, l, h, _ => by
    obtain rfl : l = [] := List.eq_nil_of_length_eq_zero (by omega)
    rfl
  | n + 1, 0, l, _, h => by
    obtain rfl : l = [] := List.eq_nil_of_length_eq_zero (by omega)
    rfl
  | n + 1, m + 1, l, h1, h2 => by
    unfold scanN
    rcases hf : fstN l with _ | c
    · rfl
    · have hp := encN_pos c
      have hl : (l.drop (encN c).length).length = l.length - (encN c).length := List.length_drop
      have h0 : 0 < l.length := by
        rcases l with _ | ⟨b, l⟩
        · rw [fstN_nil] at hf; cases hf
        · simp
      simp only [scanN_fuel n m (l.drop (encN c).length) (by omega) (by omega)]
/-- A text's code points, as far as there are any. -/
def cps (l : List Nat) : List Nat := (scanN l.length l).1
/-- What is left where none begins; nothing, if the text is right. -/
def rst (l : List Nat) : List Nat := (scanN l.length l).2
theorem scan_none {l : List Nat} (h : fstN l = none) : cps l = [] ∧ rst l = l := by
  unfold cps rst
  rcases hn : l.length with _ | n
  · exact ⟨rfl, rfl⟩
  · simp only [scanN, h, and_self]
theorem scan_enc {c : Nat} (hc : isC c = true) (t : List Nat) : cps (encN c ++ t) = c :: cps t ∧ rst (encN c ++ t) = rst t := by
  have hp := encN_pos c
  unfold cps rst
  rw [show (encN c ++ t).length = ((encN c).length - 1 + t.length) + 1 by simp; omega]
  simp only [scanN, fst_enc hc, List.drop_left]
  rw [scanN_fuel _ t.length t (by omega) (Nat.le_refl _)]
  exact ⟨rfl, rfl⟩
theorem cps_nil : cps [] = [] := rfl
theorem rst_nil : rst [] = [] := rfl
theorem scan_encs {cs : List Nat} (h : allC cs = true) (t : List Nat) : cps (encs cs ++ t) = cs ++ cps t ∧ rst (encs cs ++ t) = rst t := by
  induction cs with
  | nil => exact ⟨rfl, rfl⟩
  | cons c cs ih =>
    obtain ⟨h1, h2⟩ := allC_cons.1 h
    rw [encs_cons, List.append_assoc, (scan_enc h1 _).1, (scan_enc h1 _).2, (ih h2).1, (ih h2).2]
    exact ⟨rfl, rfl⟩
theorem cps_encs {cs : List Nat} (h : allC cs = true) : cps (encs cs) = cs := by have := (scan_encs h []).1; simpa [cps_nil] using this
theorem rst_encs {cs : List Nat} (h : allC cs = true) : rst (encs cs) = [] := by have := (scan_encs h []).2; simpa [rst_nil] using this
theorem scan_spec (l : List Nat) (hb : ∀ b ∈ l, b < 256) : l = encs (cps l) ++ rst l ∧ allC (cps l) = true ∧ fstN (rst l) = none := by
  obtain ⟨n, hn⟩ : ∃ n, l.length = n := ⟨_, rfl⟩
  induction n using Nat.strongRecOn generalizing l with
  | ind n ih =>
    rcases hf : fstN l with _ | c
    · obtain ⟨h1, h2⟩ := scan_none hf
      rw [h1, h2]
      exact ⟨rfl, rfl, hf⟩
    · obtain ⟨h1, h2, _⟩ := fst_some hb hf
      have hp := encN_pos c
      have hlen : l.length = (encN c).length + (l.drop (encN c).length).length := by
        conv => lhs; rw [h2]
        simp
      have hi := ih (l.drop (encN c).length).length (by omega) (l.drop (encN c).length) (fun b h => hb b (List.mem_of_mem_drop h)) rfl
      have e := scan_enc h1 (l.drop (encN c).length)
      rw [← h2] at e
      rw [e.1, e.2]
      refine ⟨?_, allC_cons.2 ⟨h1, hi.2.1⟩, hi.2.2⟩
      rw [encs_cons, List.append_assoc, ← hi.1]
      exact h2
theorem scan_right {l : List Nat} (hb : ∀ b ∈ l, b < 256) (h : rst l = []) : l = encs (cps l) := by
  have := (scan_spec l hb).1
  rwa [h, List.append_nil] at this
/-- The place where no code point begins; -1, if there is none. -/
def badZ (l : List Nat) : Int := if rst l = [] then -1 else ((encs (cps l)).length : Int)
theorem badZ_neg {l : List Nat} : badZ l < 0 ↔ rst l = [] := by
  unfold badZ
  split
  · rename_i h; simp [h]
  · rename_i h; simp only [h, iff_false]; omega
theorem badZ_right {l : List Nat} (h : rst l = []) : badZ l = -1 := by simp [badZ, h]
theorem badZ_wrong {l : List Nat} (h : rst l ≠ []) : badZ l = ((encs (cps l)).length : Int) := by simp [badZ, h]
theorem badZ_range {l : List Nat} (hb : ∀ b ∈ l, b < 256) : -1 ≤ badZ l ∧ badZ l ≤ (l.length : Int) := by
  have h := congrArg List.length (scan_spec l hb).1
  simp at h
  unfold badZ
  split <;> omega
theorem badZ_join {a b : List Nat} (ha : ∀ x ∈ a, x < 256) (h : rst a = []) : badZ (a ++ b) = if rst b = [] then -1 else (a.length : Int) + badZ b := by
  have e := scan_right ha h
  have hs := (scan_spec a ha).2.1
  have hl := congrArg List.length e
  have h1 := scan_encs hs b
  rw [← e] at h1
  unfold badZ
  rw [h1.1, h1.2, encs_append]
  by_cases hb : rst b = []
  · simp [hb]
  · simp only [hb, if_false, List.length_append]; omega
theorem rst_join {a b : List Nat} (ha : ∀ x ∈ a, x < 256) (h : rst a = []) : rst (a ++ b) = rst b ∧ cps (a ++ b) = cps a ++ cps b := by
  have e := scan_right ha h
  have h1 := scan_encs (scan_spec a ha).2.1 b
  rw [← e] at h1
  exact ⟨h1.2, h1.1⟩
/-- A right text is told by its code points. -/
theorem cps_inj {a b : List Nat} (ha : ∀ x ∈ a, x < 256) (hb : ∀ x ∈ b, x < 256) (h1 : rst a = []) (h2 : rst b = []) (h : cps a = cps b) : a = b := by
  rw [scan_right ha h1, scan_right hb h2, h]
theorem cps_len (l : List Nat) (hb : ∀ b ∈ l, b < 256) : (cps l).length ≤ l.length := by
  have h := congrArg List.length (scan_spec l hb).1
  have := encs_len (cps l)
  simp at h
  omega
/-- 80 to bf begins nothing. -/
theorem fst_cont {l : List Nat} {b : Nat} {t : List Nat} (e : l = b :: t) (h1 : 128 ≤ b) (h2 : b < 192) : fstN l = none := by
  subst e
  unfold fstN decL Lib.decodeN
  simp only [List.getD_cons_zero]
  rw [if_pos]
  right
  rw [if_neg (by omega), if_neg (by omega), if_neg (by omega), if_neg (by omega)]
/-- Where a right text is cut, so that what is behind is right, a code point begins. -/
theorem cut_back {cs : List Nat} (h : allC cs = true) : ∀ k, k ≤ (encs cs).length → rst ((encs cs).drop k) = [] → ∃ j, j ≤ cs.length ∧ k = (encs (cs.take j)).length := by
  induction cs with
  | nil => intro k hk _; exact ⟨0, Nat.le_refl _, by simpa [encs] using hk⟩
  | cons c cs ih =>
    obtain ⟨h1, h2⟩ := allC_cons.1 h
    intro k hk hr
    rw [encs_cons] at hk hr
    by_cases hk0 : k = 0
    · exact ⟨0, Nat.zero_le _, by simp [hk0, encs]⟩
    by_cases hkc : k < (encN c).length
    · exfalso
      obtain ⟨b, hb, hb1, hb2⟩ := encN_tail c k (by omega) hkc
      have e : (encN c ++ encs cs).drop k = b :: (encN c ++ encs cs).drop (k + 1) := by
        have hlt : k < (encN c ++ encs cs).length := by simp; omega
        rw [List.drop_eq_getElem_cons hlt]
        congr 1
        have := List.getElem?_eq_getElem hlt
        rw [List.getElem?_append_left hkc, hb] at this
        exact (Option.some.inj this).symm
      have hn := (scan_none (fst_cont e hb1 hb2)).2
      rw [hn, e] at hr
      cases hr
    · rw [List.drop_append, List.drop_eq_nil_of_le (by omega), List.nil_append] at hr
      simp at hk
      obtain ⟨j, hj, e⟩ := ih h2 (k - (encN c).length) (by omega) hr
      refine ⟨j + 1, by simp; omega, ?_⟩
      rw [List.take_succ_cons, encs_cons, List.length_append, ← e]
      omega
theorem allC_take {cs : List Nat} (h : allC cs = true) (j : Nat) : allC (cs.take j) = true := List.all_eq_true.2 fun x hx => List.all_eq_true.1 h x (List.mem_of_mem_take hx)
theorem allC_drop {cs : List Nat} (h : allC cs = true) (j : Nat) : allC (cs.drop j) = true := List.all_eq_true.2 fun x hx => List.all_eq_true.1 h x (List.mem_of_mem_drop hx)
theorem cut_at {cs : List Nat} (_h : allC cs = true) (j : Nat) : (encs cs).take (encs (cs.take j)).length = encs (cs.take j) ∧ (encs cs).drop (encs (cs.take j)).length = encs (cs.drop j) := by
  have e : encs cs = encs (cs.take j) ++ encs (cs.drop j) := by rw [← encs_append, List.take_append_drop]
  rw [e]
  simp
/-- A right text is cut into right ones just between code points. -/
theorem cut_iff {cs : List Nat} (h : allC cs = true) {k : Nat} (hk : k ≤ (encs cs).length) :
    (rst ((encs cs).take k) = [] ↔ ∃ j, j ≤ cs.length ∧ k = (encs (cs.take j)).length) ∧ (rst ((encs cs).drop k) = [] ↔ ∃ j, j ≤ cs.length ∧ k = (encs (cs.take j)).length) := by
  have hb : ∀ x ∈ (encs cs).take k, x < 256 := fun x hx => encs_lt h x (List.mem_of_mem_take hx)
  refine ⟨⟨fun hr => ?_, ?_⟩, ⟨cut_back h k hk, ?_⟩⟩
  · refine cut_back h k hk ?_
    have h1 := (rst_join (b := (encs cs).drop k) hb hr).1
    rw [List.take_append_drop, rst_encs h] at h1
    exact h1.symm
  · rintro ⟨j, _, rfl⟩
    rw [(cut_at h j).1]
    exact rst_encs (allC_take h j)
  · rintro ⟨j, _, rfl⟩
    rw [(cut_at h j).2]
    exact rst_encs (allC_drop h j)
/-- By a first byte: how many bytes there are, and what is taken off it. -/
def klass (b : Nat) : Nat × Nat := if b < 128 then (1, 0) else if 192 ≤ b ∧ b < 224 then (2, 192) else if 224 ≤ b ∧ b < 240 then (3, 224) else if 240 ≤ b ∧ b < 248 then (4, 240) else (0, 0)
/-- The bits of the first i bytes. -/
def accL (l : List Nat) (o : Nat) : Nat → Nat
  | 0 => 0
  | 1 => l.getD 0 0 - o
  | i + 2 => accL l o (i + 1) * 64 + (l.getD (i + 1) 0 - 128)
theorem enc_klass {c : Nat} (hc : isC c = true) (t : List Nat) {k o : Nat} (h : klass ((encN c ++ t).getD 0 0) = (k, o)) :
    (encN c).length = k ∧ accL (encN c ++ t) o k = c ∧ ∀ j, 0 < j → j < k → 128 ≤ (encN c ++ t).getD j 0 ∧ (encN c ++ t).getD j 0 < 192 := by
  have hl := isC_le hc
  unfold klass at h
  rcases encN_cases c with ⟨h1, e⟩ | ⟨h0, h1, e⟩ | ⟨h0, h1, e⟩ | ⟨h0, e⟩ <;> rw [e] at h ⊢ <;> simp only [List.cons_append, List.nil_append, List.getD_cons_zero] at h ⊢
  · rw [if_pos h1] at h
    obtain ⟨rfl, rfl⟩ := Prod.mk.inj h
    exact ⟨rfl, by simp [accL], fun j h1 h2 => by omega⟩
  · rw [if_neg (by omega), if_pos (by omega)] at h
    obtain ⟨rfl, rfl⟩ := Prod.mk.inj h
    refine ⟨rfl, by simp only [accL, List.getD_cons_zero, List.getD_cons_succ, Nat.zero_add]; omega, fun j h1 h2 => ?_⟩
    obtain rfl : j = 1 := by omega
    simp only [List.getD_cons_zero, List.getD_cons_succ]; omega
  · rw [if_neg (by omega), if_neg (by omega), if_pos (by omega)] at h
    obtain ⟨rfl, rfl⟩ := Prod.mk.inj h
    refine ⟨rfl, by simp only [accL, List.getD_cons_zero, List.getD_cons_succ, Nat.zero_add]; omega, fun j h1 h2 => ?_⟩
    rcases (by omega : j = 1 ∨ j = 2) with rfl | rfl <;> simp only [List.getD_cons_zero, List.getD_cons_succ] <;> omega
  · rw [if_neg (by omega), if_neg (by omega), if_neg (by omega), if_pos (by omega)] at h
    obtain ⟨rfl, rfl⟩ := Prod.mk.inj h
    refine ⟨rfl, by simp only [accL, List.getD_cons_zero, List.getD_cons_succ, Nat.zero_add]; omega, fun j h1 h2 => ?_⟩
    rcases (by omega : j = 1 ∨ j = 2 ∨ j = 3) with rfl | rfl | rfl <;> simp only [List.getD_cons_zero, List.getD_cons_succ] <;> omega
theorem klass_zero {c : Nat} (hc : isC c = true) (t : List Nat) : (klass ((encN c ++ t).getD 0 0)).1 ≠ 0 := by
  intro h
  have h2 : klass ((encN c ++ t).getD 0 0) = (0, (klass ((encN c ++ t).getD 0 0)).2) := Prod.ext h rfl
  have := (enc_klass hc t h2).1
  have := encN_pos c
  omega
/-- Where no first byte is. -/
theorem fst_klass {l : List Nat} (hb : ∀ b ∈ l, b < 256) (h : (klass (l.getD 0 0)).1 = 0) : fstN l = none := by
  rw [fst_none_iff hb]
  rintro c t hc rfl
  exact klass_zero hc t h
/-- Where there are too few. -/
theorem fst_short {l : List Nat} (hb : ∀ b ∈ l, b < 256) {k o : Nat} (h : klass (l.getD 0 0) = (k, o)) (hk : l.length < k) : fstN l = none := by
  rw [fst_none_iff hb]
  rintro c t hc rfl
  have := (enc_klass hc t h).1
  rw [List.length_append] at hk
  omega
/-- Where one is none that follows. -/
theorem fst_break {l : List Nat} (hb : ∀ b ∈ l, b < 256) {k o : Nat} (h : klass (l.getD 0 0) = (k, o)) {j : Nat} (h0 : 0 < j) (hk : j < k) (hj : l.getD j 0 < 128 ∨ 191 < l.getD j 0) : fstN l = none := by
  rw [fst_none_iff hb]
  rintro c t hc rfl
  have := (enc_klass hc t h).2.2 j h0 hk
  omega
/-- Behind all. -/
theorem fst_all {l : List Nat} (hb : ∀ b ∈ l, b < 256) {k o : Nat} (h : klass (l.getD 0 0) = (k, o)) (_hk0 : 0 < k) :
    (isC (accL l o k) = true → encN (accL l o k) = l.take k → fstN l = some (accL l o k) ∧ (encN (accL l o k)).length = k) ∧ ((isC (accL l o k) = false ∨ encN (accL l o k) ≠ l.take k) → fstN l = none) := by
  constructor
  · intro hc he
    have e : l = encN (accL l o k) ++ l.drop k := by rw [he, List.take_append_drop]
    have hf : fstN l = some (accL l o k) := by
      have := fst_enc hc (l.drop k)
      rwa [← e] at this
    refine ⟨hf, ?_⟩
    have h2 := h
    rw [e] at h2
    exact (enc_klass hc (l.drop k) h2).1
  · intro hn
    rw [fst_none_iff hb]
    rintro c t hc rfl
    obtain ⟨h1, h2, _⟩ := enc_klass hc t h
    rw [h2] at hn
    rcases hn with hn | hn
    · rw [hc] at hn; cases hn
    · apply hn
      rw [← h1, List.take_left]
theorem klass_1 {b : Nat} (h : b < 128) : klass b = (1, 0) := by rw [klass, if_pos h]
theorem klass_2 {b : Nat} (h : 192 ≤ b) (h' : b < 224) : klass b = (2, 192) := by rw [klass, if_neg (by omega), if_pos (by omega)]
theorem klass_3 {b : Nat} (h : 224 ≤ b) (h' : b < 240) : klass b = (3, 224) := by rw [klass, if_neg (by omega), if_neg (by omega), if_pos (by omega)]
theorem klass_4 {b : Nat} (h : 240 ≤ b) (h' : b < 248) : klass b = (4, 240) := by rw [klass, if_neg (by omega), if_neg (by omega), if_neg (by omega), if_pos (by omega)]
theorem klass_0 {b : Nat} (h : (128 ≤ b ∧ b < 192) ∨ 248 ≤ b) : (klass b).1 = 0 := by rw [klass, if_neg (by omega), if_neg (by omega), if_neg (by omega), if_neg (by omega)]
/-- What First answers. -/
def fstP (l : List Nat) : Int × Int := match fstN l with
  | some c => ((c : Int), ((encN c).length : Int))
  | none => (0, 0)
theorem fstP_none {l : List Nat} (h : fstN l = none) : fstP l = (0, 0) := by rw [fstP, h]
theorem fstP_some {l : List Nat} {c : Nat} (h : fstN l = some c) : fstP l = ((c : Int), ((encN c).length : Int)) := by rw [fstP, h]
end Go.Proofs.Ytiflkkmeloclfaa
/- UB -/
/-
  UB: texts as bytes, rows of runes in memory.
-/
set_option maxRecDepth 100000
namespace Go.Proofs.Ytiflkkmeloclfaa
open Go.RowKit
/-- A text's bytes. -/
def bts (s : ByteArray) : List Nat := s.data.toList.map UInt8.toNat
theorem bts_length (s : ByteArray) : (bts s).length = s.size := by simp [bts]
theorem bts_lt (s : ByteArray) : ∀ b ∈ bts s, b < 256 := by
  intro b hb
  obtain ⟨x, _, rfl⟩ := List.mem_map.1 hb
  exact x.toNat_lt
theorem bts_get (s : ByteArray) (k : Nat) (hk : k < s.size) : (bts s).getD k 0 = s[k].toNat := by
  have hk' : k < s.data.toList.length := by simpa using hk
  simp only [bts, List.getD, List.getElem?_map, List.getElem?_eq_getElem hk', Option.map_some, Option.getD_some]
  rfl
theorem bts_getD (s : ByteArray) (k : Nat) : (bts s).getD k 0 = (s.get! k).toNat := by
  rcases Nat.lt_or_ge k s.size with hk | hk
  · rw [bts_get s k hk]
    have : s.get! k = s[k] := by
      show s.data[k]! = s.data[k]
      rw [getElem!_pos s.data k hk]
    rw [this]
  · rw [List.getD, List.getElem?_eq_none (by rw [bts_length]; exact hk)]
    have : s.get! k = default := by
      show s.data[k]! = default
      rw [getElem!_neg s.data k (by simpa using hk)]
    rw [this]; rfl
theorem bts_extract (s : ByteArray) (i j : Nat) : bts (s.extract i j) = ((bts s).take j).drop i := by
  simp only [bts, ByteArray.data_extract, Array.toList_extract, List.extract_eq_take_drop, List.map_take, List.map_drop]
  rw [List.drop_take]
theorem bts_from (s : ByteArray) (i : Nat) : bts (s.extract i s.size) = (bts s).drop i := by
  rw [bts_extract, List.take_of_length_le (by rw [bts_length]; exact Nat.le_refl _)]
theorem bts_upto (s : ByteArray) (j : Nat) : bts (s.extract 0 j) = (bts s).take j := by
  rw [bts_extract, List.drop_zero]
theorem bts_append (s t : ByteArray) : bts (s ++ t) = bts s ++ bts t := by
  simp [bts]
theorem bts_inj {s t : ByteArray} (h : bts s = bts t) : s = t := by
  have h2 : s.data.toList = t.data.toList := by
    have hinj : ∀ a b : List UInt8, a.map UInt8.toNat = b.map UInt8.toNat → a = b := by
      intro a b hab
      exact List.map_inj_right (fun x y hxy => UInt8.toNat_inj.1 hxy) |>.1 hab
    exact hinj _ _ h
  cases s; cases t
  simpa using h2
/-- The text of these bytes. -/
def stz (l : List Nat) : ByteArray := ⟨(l.map UInt8.ofNat).toArray⟩
theorem bts_stz {l : List Nat} (h : ∀ b ∈ l, b < 256) : bts (stz l) = l := by
  simp only [bts, stz, List.map_map]
  conv => rhs; rw [← List.map_id l]
  refine List.map_congr_left fun x hx => ?_
  have := h x hx
  simp only [Function.comp, UInt8.toNat_ofNat', id]
  omega
theorem stz_bts (s : ByteArray) : stz (bts s) = s := bts_inj (bts_stz (bts_lt s))
theorem stz_size (l : List Nat) : (stz l).size = l.length := by simp [stz, ByteArray.size]
theorem eq_stz {s : ByteArray} {l : List Nat} (h : bts s = l) : s = stz l := by rw [← h, stz_bts]
theorem stz_nil : stz [] = ⟨#[]⟩ := rfl
theorem stz_append (a b : List Nat) : stz (a ++ b) = stz a ++ stz b := by
  have h : ∀ x y : List UInt8, (⟨(x ++ y).toArray⟩ : ByteArray) = ⟨x.toArray⟩ ++ ⟨y.toArray⟩ := by
    intro x y
    apply ByteArray.ext
    simp
  simp only [stz, List.map_append]
  exact h _ _
theorem toList_bts (s : ByteArray) : s.toList.map UInt8.toNat = bts s := by rw [ByteArray.toList_eq]; rfl
theorem toList_beq (s t : ByteArray) : (s.toList == t.toList) = decide (bts s = bts t) := by
  rw [Bool.eq_iff_iff, beq_iff_eq, decide_eq_true_eq]
  constructor
  · intro h; rw [← toList_bts, ← toList_bts, h]
  · intro h; rw [bts_inj h]
theorem isEmpty_bts (s : ByteArray) : s.toList.isEmpty = decide (s.size = 0) := by
  have h := congrArg List.length (toList_bts s)
  rw [List.length_map, bts_length] at h
  rw [Bool.eq_iff_iff, decide_eq_true_eq, ← h, List.isEmpty_iff]
  exact ⟨fun e => by rw [e]; rfl, fun e => List.eq_nil_of_length_eq_zero e⟩
/-- The model's way over a text. -/
theorem decode_bts (s : ByteArray) (i : Nat) : Utf8.decode s i = decL ((bts s).drop i) := by
  have hg : ∀ k, ((bts s).drop i).getD k 0 = (s.get! (i + k)).toNat := by
    intro k
    rw [← bts_getD, List.getD, List.getD, List.getElem?_drop]
  rw [Lib.decode_at, decL, hg, hg, hg, hg, List.length_drop, bts_length]
  rfl
theorem bts_drop_lt (s : ByteArray) (i : Nat) : ∀ b ∈ (bts s).drop i, b < 256 := fun b hb => bts_lt s b (List.mem_of_mem_drop hb)
theorem bts_take_lt (s : ByteArray) (i : Nat) : ∀ b ∈ (bts s).take i, b < 256 := fun b hb => bts_lt s b (List.mem_of_mem_take hb)
/-- Does s begin with t? -/
def pfx (t s : ByteArray) : Bool := decide (t.size ≤ s.size) && decide ((bts s).take t.size = bts t)
theorem pfx_iff {t s : ByteArray} : pfx t s = true ↔ ∃ r, bts s = bts t ++ r := by
  simp only [pfx, Bool.and_eq_true, decide_eq_true_eq]
  constructor
  · rintro ⟨_, h⟩
    exact ⟨(bts s).drop t.size, by rw [← h, List.take_append_drop]⟩
  · rintro ⟨r, h⟩
    have hl := congrArg List.length h
    rw [List.length_append, bts_length, bts_length] at hl
    refine ⟨by omega, ?_⟩
    rw [h, List.take_append_of_le_length (by rw [bts_length]; exact Nat.le_refl _), List.take_of_length_le (by rw [bts_length]; exact Nat.le_refl _)]
/-- Right as far as p: what is ahead is the bytes of cs. -/
def Upto (s : ByteArray) (p : Nat) (cs : List Nat) : Prop := p ≤ s.size ∧ allC cs = true ∧ (bts s).take p = encs cs
theorem Upto.zero (s : ByteArray) : Upto s 0 [] := ⟨Nat.zero_le _, rfl, rfl⟩
theorem Upto.len {s : ByteArray} {p : Nat} {cs : List Nat} (h : Upto s p cs) : (encs cs).length = p := by
  rw [← h.2.2, List.length_take, bts_length]; have := h.1; omega
theorem Upto.split {s : ByteArray} {p : Nat} {cs : List Nat} (h : Upto s p cs) : bts s = encs cs ++ (bts s).drop p := by rw [← h.2.2, List.take_append_drop]
theorem Upto.scan {s : ByteArray} {p : Nat} {cs : List Nat} (h : Upto s p cs) : cps (bts s) = cs ++ cps ((bts s).drop p) ∧ rst (bts s) = rst ((bts s).drop p) := by
  have e := scan_encs h.2.1 ((bts s).drop p)
  rwa [← h.split] at e
theorem Upto.count {s : ByteArray} {p : Nat} {cs : List Nat} (h : Upto s p cs) : cs.length ≤ p := by rw [← h.len]; exact encs_len cs
theorem Upto.end_ {s : ByteArray} {p : Nat} {cs : List Nat} (h : Upto s p cs) (hp : ¬ p < s.size) : cps (bts s) = cs ∧ rst (bts s) = [] ∧ badZ (bts s) = -1 := by
  have e := h.scan
  rw [List.drop_eq_nil_of_le (by rw [bts_length]; omega), cps_nil, rst_nil, List.append_nil] at e
  exact ⟨e.1, e.2, badZ_right e.2⟩
theorem Upto.here {s : ByteArray} {p : Nat} {cs : List Nat} (h : Upto s p cs) (hp : p < s.size) (hn : fstN ((bts s).drop p) = none) : cps (bts s) = cs ∧ rst (bts s) ≠ [] ∧ badZ (bts s) = (p : Int) := by
  have e := h.scan
  rw [(scan_none hn).1, (scan_none hn).2, List.append_nil] at e
  have hne : rst (bts s) ≠ [] := by
    rw [e.2]
    intro h0
    have := congrArg List.length h0
    rw [List.length_drop, bts_length] at this
    simp at this
    omega
  exact ⟨e.1, hne, by rw [badZ_wrong hne, e.1, h.len]⟩
theorem Upto.step {s : ByteArray} {p : Nat} {cs : List Nat} (h : Upto s p cs) {c : Nat} (hf : fstN ((bts s).drop p) = some c) :
    isC c = true ∧ Upto s (p + (encN c).length) (cs ++ [c]) ∧ Utf8.decode s p = (c, (encN c).length) ∧ 1 ≤ (encN c).length := by
  obtain ⟨h1, h2, h3⟩ := fst_some (bts_drop_lt s p) hf
  have hl := congrArg List.length h2
  rw [List.length_append, List.length_drop, bts_length] at hl
  have hp := encN_pos c
  refine ⟨h1, ⟨by have := h.1; omega, allC_append.2 ⟨h.2.1, by simp [allC, h1]⟩, ?_⟩, by rw [decode_bts, h3], hp⟩
  have e : bts s = (encs cs ++ encN c) ++ ((bts s).drop p).drop (encN c).length := by
    rw [List.append_assoc, ← h2]; exact h.split
  have hL : (encs cs ++ encN c).length = p + (encN c).length := by rw [List.length_append, h.len]
  rw [encs_append, encs_one]
  conv => lhs; rw [e]
  rw [← hL, List.take_append_of_le_length (Nat.le_refl _), List.take_of_length_le (Nat.le_refl _)]
theorem decode_none {s : ByteArray} {p : Nat} (hp : p < s.size) (hn : fstN ((bts s).drop p) = none) : Utf8.decode s p = (65533, 1) := by
  rw [decode_bts]; exact fst_none hn (by rw [List.length_drop, bts_length]; omega)
/-- The bytes of fffd. -/
def standS : ByteArray := ⟨#[239, 191, 189]⟩
theorem bts_stand : bts standS = encN 65533 := rfl
theorem stand_none {s : ByteArray} (hn : fstN (bts s) = none) : pfx standS s = false := by
  rcases hp : pfx standS s with _ | _
  · rfl
  · obtain ⟨r, hr⟩ := pfx_iff.1 hp
    rw [hr, bts_stand, fst_enc (by decide)] at hn
    cases hn
theorem stand_some {s : ByteArray} (hn : fstN (bts s) = some 65533) : pfx standS s = true := by
  have h := (fst_some (bts_lt s) hn).2.1
  exact pfx_iff.2 ⟨_, by rw [bts_stand]; exact h⟩
/-- Is a text right? Its code points; none, if it isn't. -/
def rgt (l : List Nat) : Bool := decide (rst l = [])
def pts (l : List Nat) : List Nat := if rst l = [] then cps l else []
theorem rgt_true {l : List Nat} (h : rst l = []) : rgt l = true ∧ pts l = cps l := ⟨by simp [rgt, h], by simp [pts, h]⟩
theorem rgt_false {l : List Nat} (h : rst l ≠ []) : rgt l = false ∧ pts l = [] := ⟨by simp [rgt, h], by simp [pts, h]⟩
theorem pts_len {l : List Nat} (hb : ∀ b ∈ l, b < 256) : (pts l).length ≤ l.length := by
  unfold pts; split
  · exact cps_len l hb
  · simp
theorem pts_allC {l : List Nat} (hb : ∀ b ∈ l, b < 256) : allC (pts l) = true := by
  unfold pts; split
  · exact (scan_spec l hb).2.1
  · rfl
/-- Code points as runes. -/
def ints (cs : List Nat) : List Int := cs.map fun (c : Nat) => (c : Int)
theorem ints_length (cs : List Nat) : (ints cs).length = cs.length := by simp [ints]
theorem ints_append (us bs : List Nat) : ints (us ++ bs) = ints us ++ ints bs := by simp [ints]
theorem ints_inj {us bs : List Nat} (h : ints us = ints bs) : us = bs := List.map_inj_right (fun _ _ hxy => Int.ofNat.inj hxy) |>.1 h
theorem ints_range {cs : List Nat} (h : allC cs = true) : ∀ z ∈ ints cs, 0 ≤ z ∧ z ≤ 1114111 := by
  intro z hz
  obtain ⟨c, hc, rfl⟩ := List.mem_map.1 hz
  have := isC_le (List.all_eq_true.1 h c hc)
  omega
theorem ints_getD (cs : List Nat) (k : Nat) : (ints cs).getD k 0 = ((cs.getD k 0 : Nat) : Int) := by
  rw [List.getD, List.getD, ints, List.getElem?_map]
  cases cs[k]? <;> rfl
/-- Runes as code points. -/
def nats (zs : List Int) : List Nat := zs.map Int.toNat
theorem nats_ints (cs : List Nat) : nats (ints cs) = cs := by
  simp only [nats, ints, List.map_map]
  conv => rhs; rw [← List.map_id cs]
  exact List.map_congr_left fun x _ => rfl
theorem ints_nats {zs : List Int} (h : zs.all isZ = true) : ints (nats zs) = zs := by
  simp only [nats, ints, List.map_map]
  conv => rhs; rw [← List.map_id zs]
  refine List.map_congr_left fun x hx => ?_
  have := (isZ_iff.1 (List.all_eq_true.1 h x hx)).1
  simp only [Function.comp, id]
  omega
theorem allC_nats {zs : List Int} (h : zs.all isZ = true) : allC (nats zs) = true := by
  refine List.all_eq_true.2 fun c hc => ?_
  obtain ⟨z, hz, rfl⟩ := List.mem_map.1 hc
  have h1 := List.all_eq_true.1 h z hz
  simp only [isZ, Bool.and_eq_true] at h1
  exact h1.2
theorem all_ints {cs : List Nat} (h : allC cs = true) : (ints cs).all isZ = true := by
  refine List.all_eq_true.2 fun z hz => ?_
  obtain ⟨c, hc, rfl⟩ := List.mem_map.1 hz
  rw [isZ_nat]; exact List.all_eq_true.1 h c hc
theorem encode_enc {c : Nat} (hc : isC c = true) : (Utf8.encode (c : Int)) = stz (encN c) := by
  have hv : Utf8.valid (c : Int) = true := by rw [isZ_valid, isZ_nat, hc]
  simp only [Utf8.encode, hv, if_true, Int.toNat_natCast, encN, stz]
  repeat' split
  all_goals rfl
theorem runesBytes_enc {cs : List Nat} (h : allC cs = true) : runesBytes (ints cs) = stz (encs cs) := by
  have hgen : ∀ (us : List Nat) (r : ByteArray), allC us = true → (ints us).foldl (fun r n => r ++ Utf8.encode n) r = r ++ stz (encs us) := by
    intro us
    induction us with
    | nil =>
      intro r _
      show r = r ++ stz []
      rw [stz_nil]
      apply ByteArray.ext
      simp
    | cons a us ih =>
      intro r ha
      obtain ⟨h1, h2⟩ := allC_cons.1 ha
      show (ints us).foldl _ (r ++ Utf8.encode (a : Int)) = _
      rw [ih _ h2, encode_enc h1, encs_cons, stz_append, ByteArray.append_assoc]
  have h0 := hgen cs ByteArray.empty h
  rw [runesBytes, h0]
  apply ByteArray.ext
  simp
/-- Runes as values. -/
def i32s (zs : List Int) : List Value := zs.map (Value.int .i32)
theorem i32s_length (zs : List Int) : (i32s zs).length = zs.length := by simp [i32s]
theorem i32s_get (zs : List Int) (k : Nat) : (i32s zs)[k]? = (zs[k]?).map (Value.int .i32) := by simp [i32s]
theorem i32s_append (zs ys : List Int) : i32s (zs ++ ys) = i32s zs ++ i32s ys := by simp [i32s]
theorem i32s_one (zs : List Int) : ∀ u ∈ i32s zs, u.oneCell' = true := by
  intro u hu
  obtain ⟨x, _, rfl⟩ := List.mem_map.1 hu
  rfl
theorem i32_info : (Try.prog.info? 21).map (fun i => (i.zero, i.size, i.bytes)) = some (some (.int .i32 0), 1, 4) := by kernel_rfl
/-- A slice that reads as the runes zs. -/
def Rns (w : World) (A : Option Addr) (n : Nat) (zs : List Int) : Prop := Reads w w.heap.size 1 A n (i32s zs) ∧ n ≤ 36000000000000 ∧ ∀ z ∈ zs, -2147483648 ≤ z ∧ z ≤ 2147483647
section
variable {w w' : World} {n : Nat} {A : Option Addr} {zs : List Int}
theorem Rns.len (h : Rns w A n zs) : zs.length = n := by have := h.1.1; simpa [i32s_length] using this
theorem Rns.below (h : Rns w A n zs) (hb : Below w.heap.size w w') : Rns w' A n zs := ⟨(h.1.below hb).more hb.size, h.2⟩
theorem Rns.at_ {k : Nat} (h : Rns w A n zs) (hk : k < n) : ∃ ad, A = some ad ∧ ad.block < w.heap.size ∧ w.cell? (ad.add k) = some (.int .i32 (zs.getD k 0)) ∧ -2147483648 ≤ zs.getD k 0 ∧ zs.getD k 0 ≤ 2147483647 := by
  obtain ⟨ad, u, e, hb, hx, hc⟩ := h.1.at_ hk
  have hl : k < zs.length := by rw [h.len]; exact hk
  rw [i32s_get, List.getElem?_eq_getElem hl] at hx
  simp at hx
  subst hx
  refine ⟨ad, e, hb, ?_, ?_⟩
  · rw [hc]; simp [List.getD, List.getElem?_eq_getElem hl]
  · simp only [List.getD, List.getElem?_eq_getElem hl, Option.getD_some]; exact h.2.2 _ (List.getElem_mem hl)
end
theorem rns_nil (w : World) : Rns w none 0 [] := ⟨Reads.none_, by omega, by simp⟩
/-- A slice in new memory (from block base on), that holds the runes zs. -/
def OwnR (w : World) (base : Nat) (A : Option Addr) (m c : Nat) (zs : List Int) : Prop :=
  w.ownsRow base 21 1 (.slice A m c) m (i32s zs) ∧ m ≤ 100000000000 ∧ ∀ z ∈ zs, -2147483648 ≤ z ∧ z ≤ 2147483647
section
variable {w w' : World} {base m c : Nat} {A : Option Addr} {zs : List Int}
theorem OwnR.len (h : OwnR w base A m c zs) : zs.length = m := by have := h.1.1; simpa [i32s_length] using this
theorem OwnR.rns (h : OwnR w base A m c zs) : Rns w A m zs := ⟨Reads.of_own h.1, Nat.le_trans h.2.1 (by omega), h.2.2⟩
theorem OwnR.keep {B : Nat} (h : OwnR w base A m c zs) (hb : Below B w w') (hB : B = w.heap.size) : OwnR w' base A m c zs := by
  subst hB
  refine ⟨h.1.kept (row := none) ⟨hb.os, hb.tape, hb.output, hb.size, fun k hk _ => hb.block k hk⟩ ?_, h.2⟩
  cases hv : (Value.slice A m c).ownBlock <;> simp
theorem OwnR.weaken {base' : Nat} (h : OwnR w base A m c zs) (hb : base' ≤ base) : OwnR w base' A m c zs := ⟨own_weaken h.1 hb, h.2⟩
end
theorem ownR_nil (w : World) (base : Nat) : OwnR w base none 0 0 [] := ⟨World.ownsRow_nil _ _ _ _, by omega, by simp⟩
/-- The call's own bytes as a text. -/
theorem conv_own_stz {w : World} {base n : Nat} {v : Value} {xs : List Nat} (h : w.ownsRow base 5 1 v n (u8s xs)) (hx : ∀ x ∈ xs, x < 256) :
    (convert 34 9 v).run Try.prog w = .ok (.string (stz xs)) w := by
  obtain ⟨s, h1, h2⟩ := conv_own h hx
  rw [h1, eq_stz (s := s) h2]
/-- 'out = append(out, x)' of one rune, out nil or the call's own. -/
theorem wpList_app_i32 {W w0 : World} {ops : Array Oper} {rest : List Oper} {o : Oper} {a : Act} {Q : Exit → Act → World → Prop} (hgd : o.guard = none) (s x : Operand) (t : TypeId)
    (ho : o.op = .call { callee := .builtin .append, args := #[s, x], argTypes := #[t, t] }) (ht : Try.prog.underlying t = some (.slice 21))
    (base : Nat) (v : Value) (k : Nat) (xs : List Int) (hs : a.eval s = v) (hown : W.ownsRow base 21 1 v k (i32s xs)) (E : Int)
    (hx : a.eval x = .slice (some ⟨W.heap.size, 0, none⟩) 1 1) (X : Int) (hE : E = X) (hk : k ≤ 10000000000) (hb : Below base w0 W) (hbase : base ≤ W.heap.size)
    (h : ∀ v' w', Hid (w'.ownsRow base 21 1 v' (k + 1) (i32s (xs ++ [X]))) → Hid (Below base w0 w') → Hid (∀ k, k < W.heap.size → v.ownBlock ≠ some k → w'.heap[k]? = W.heap[k]?) → wpList Try.prog ops Q rest (a.put o.dst v') w') :
    wpList Try.prog ops Q (o :: rest) a (W.alloc (.cells #[.int .i32 E] 21)) := by
  obtain ⟨i0, hi, hz0, hz1, hz2⟩ := info_parts i32_info
  subst hE
  refine wpList_append_own _ hgd s x t ho base 21 i0 (.int .i32 0) 1 4 ht hi hz0 hz1 hz2 rfl (by decide) v k _ hs (hown.alloc _) ⟨W.heap.size, 0, none⟩ 1 1 [.int .i32 E] hx rfl (cells_one W _ _) ?_ ?_ ?_ ?_ ?_
  · simp [Value.oneCell']
  · unfold maxLen; omega
  · omega
  · simp; omega
  · intro v' w' h1 h2 _
    refine h v' w' ?_ ?_ ?_
    · rw [i32s_append]; exact h1
    · refine (hb.alloc hbase _).grown h2 (by simp; omega) fun j hj => ?_
      exact (hown.lt j hj).1
    · intro k hk hne
      rw [h2.block k (by simp; omega) (fun e => hne e.symm)]
      show (W.heap.push _)[k]? = _
      rw [Array.getElem?_push_lt hk, Array.getElem?_eq_getElem hk]
theorem u8_one (xs : List Nat) : ∀ u ∈ u8s xs, u.oneCell' = true := by
  intro u hu
  obtain ⟨x, _, rfl⟩ := List.mem_map.1 hu
  rfl
/-- 'out = append(out, bs...)', bs a row of the call's own that is not nil. -/
theorem wpList_app_bytes {W w0 : World} {ops : Array Oper} {rest : List Oper} {o : Oper} {a : Act} {Q : Exit → Act → World → Prop} (hgd : o.guard = none) (s x : Operand) (t : TypeId)
    (ho : o.op = .call { callee := .builtin .append, args := #[s, x], argTypes := #[t, t] }) (ht : Try.prog.underlying t = some (.slice 5))
    (base : Nat) (v : Value) (k : Nat) (xs : List Nat) (hs : a.eval s = v) (hown : W.ownsRow base 5 1 v k (u8s xs)) (A : Option Addr) (m c base' : Nat) (ys : List Nat)
    (hx : a.eval x = .slice A m c) (hr : W.ownsRow base' 5 1 (.slice A m c) m (u8s ys)) (hm : 0 < m) (hk : k + m ≤ 100000000000) (hb : Below base w0 W) (hbase : base ≤ W.heap.size)
    (h : ∀ v' w', Hid (w'.ownsRow base 5 1 v' (k + m) (u8s (xs ++ ys))) → Hid (Below base w0 w') → wpList Try.prog ops Q rest (a.put o.dst v') w') :
    wpList Try.prog ops Q (o :: rest) a W := by
  obtain ⟨i0, hi, hz0, hz1, hz2⟩ := info_parts u8_info
  have hR := Reads.of_own hr
  obtain ⟨ad, rfl, _, hc⟩ := hR.2 hm
  have hl : ys.length = m := by have := hR.1; simpa [u8s_length] using this
  refine wpList_append_own _ hgd s x t ho base 5 i0 (.int .u8 0) 1 1 ht hi hz0 hz1 hz2 rfl (by decide) v k _ hs hown ad m c (u8s ys) hx (by rw [u8s_length, hl, Nat.mul_one]) hc (u8_one _) ?_ ?_ hbase ?_
  · unfold maxLen; omega
  · omega
  · intro v' w' h1 h2 _
    refine h v' w' ?_ ?_
    · rw [u8s_append]; exact h1
    · exact hb.grown h2 hbase fun j hj => (hown.lt j hj).1
theorem own_iter_ne {w : World} {base : Nat} {e : TypeId} {v : Value} {n : Nat} {xs : List Value} {q : Nat} {s : ByteArray} {p : Nat} (h : w.ownsRow base e 1 v n xs) (hq : w.heap[q]? = some (.stringIter s p)) : v.ownBlock ≠ some q := by
  intro hv
  rcases h.2 with ⟨rfl, _⟩ | ⟨g, cap, cur, rfl, _, hg, _⟩
  · simp [Value.ownBlock] at hv
  · simp [Value.ownBlock] at hv
    subst hv
    rw [hq] at hg
    cases hg
/-- Moving an iterator on turns no row. -/
theorem own_iterAt {w : World} {base : Nat} {e : TypeId} {v : Value} {n : Nat} {xs : List Value} {q : Nat} {s : ByteArray} {p : Nat} (h : w.ownsRow base e 1 v n xs) (hq : w.heap[q]? = some (.stringIter s p)) (p' : Nat) : (w.iterAt q s p').ownsRow base e 1 v n xs := by
  have hne := own_iter_ne h hq
  refine ⟨h.1, ?_⟩
  rcases h.2 with h' | ⟨g, cap, cur, rfl, hb, hg, h3⟩
  · exact .inl h'
  · refine .inr ⟨g, cap, cur, rfl, hb, ?_, h3⟩
    rw [Lib.iterAt_other w q g s p' (fun e => hne (by simp [Value.ownBlock, e]))]
    exact hg
end Go.Proofs.Ytiflkkmeloclfaa
/- UC -/
/-
  UC: the contracts of utf, and of the document's answers.
-/
set_option maxRecDepth 100000
namespace Go.Proofs.Ytiflkkmeloclfaa
open Go.RowKit
/-- The text of runes; none, if one is no code point. -/
def txtZ (zs : List Int) : ByteArray := if zs.all isZ = true then stz (encs (nats zs)) else ⟨#[]⟩
theorem txtZ_ok {zs : List Int} (h : zs.all isZ = true) : txtZ zs = stz (encs (nats zs)) := by simp [txtZ, h]
theorem txtZ_no {zs : List Int} (h : zs.all isZ = false) : txtZ zs = ⟨#[]⟩ := by simp [txtZ, h]
theorem getD_mem {zs : List Int} {k : Nat} (hk : k < zs.length) : zs.getD k 0 ∈ zs := by
  rw [List.getD, List.getElem?_eq_getElem hk]; exact List.getElem_mem hk
theorem all_getD {zs : List Int} (h : ∀ j, j < zs.length → isZ (zs.getD j 0) = true) : zs.all isZ = true := by
  refine List.all_eq_true.2 fun z hz => ?_
  obtain ⟨j, hj, rfl⟩ := List.mem_iff_getElem.1 hz
  have := h j hj
  rwa [List.getD, List.getElem?_eq_getElem hj] at this
theorem all_no {zs : List Int} {k : Nat} (hk : k < zs.length) (h : isZ (zs.getD k 0) = false) : zs.all isZ = false := by
  rcases ha : zs.all isZ with _ | _
  · rfl
  · rw [List.all_eq_true.1 ha _ (getD_mem hk)] at h; cases h
/-- One, two, three, four bytes, in a new block. -/
theorem own_new {W : World} {base : Nat} (hb : base ≤ W.heap.size) (xs : List Nat) (vs : Array Value) (hv : vs.toList = u8s xs) (n : Nat) (hn : n = xs.length) (hm : n ≤ 1000) :
    (W.alloc (.cells vs 5)).ownsRow base 5 1 (.slice (some ⟨W.heap.size, 0, none⟩) n n) n (u8s xs) := by
  subst hn
  refine ⟨by simp [u8s], .inr ⟨W.heap.size, xs.length, vs, rfl, hb, heap_alloc_new W _, Nat.le_refl _, by unfold maxLen; omega, ?_, ?_⟩⟩
  · have := congrArg List.length hv
    simpa [u8s] using this
  · rw [hv, List.take_of_length_le (by simp [u8s])]
end Go.Proofs.Ytiflkkmeloclfaa
