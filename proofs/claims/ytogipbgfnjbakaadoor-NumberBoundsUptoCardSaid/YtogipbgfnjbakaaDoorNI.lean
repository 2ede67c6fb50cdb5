/-
  NI: what the library's functions on texts answer, of lists of bytes.
-/
import Derived.Shelf.Strings.FuncGrows
import Derived.Shelf.Strings.Replace
import Derived.Shelf.Strings.Repeat
import Derived.Shelf.Strings.LastIndex
import Derived.Shelf.Strings.Prefix
import Derived.Shelf.Strings.Trim
import Derived.Test.YtogipbgfnjbakaaDoorNE
set_option maxRecDepth 100000
namespace Go.Proofs.YtogipbgfnjbakaaDoor
open Go.RowKit
theorem stz_map (L : List UInt8) : (⟨L.toArray⟩ : ByteArray) = stz (L.map UInt8.toNat) := by
  refine eq_stz ?_
  simp [bts]
theorem u8_beq (x c : UInt8) : (x == c) = (x.toNat == c.toNat) := by
  rw [Bool.eq_iff_iff, beq_iff_eq, beq_iff_eq, UInt8.toNat_inj]
theorem u8_bne (x c : UInt8) : (x != c) = (x.toNat != c.toNat) := by rw [bne, bne, u8_beq]
theorem tn_lt (L : List UInt8) : ∀ b ∈ L.map UInt8.toNat, b < 256 := by
  intro b hb
  obtain ⟨x, _, rfl⟩ := List.mem_map.1 hb
  exact UInt8.toNat_lt x
theorem mp_count (L : List UInt8) (c : UInt8) : Lib.countByte L c = (L.map UInt8.toNat).countP (· == c.toNat) := by
  unfold Lib.countByte List.count
  rw [List.countP_map]
  exact congrArg (fun f => L.countP f) (funext fun x => u8_beq x c)
theorem mp_any (L : List UInt8) (c : UInt8) : (L.map UInt8.toNat).any (· == c.toNat) = L.any (· == c) := by
  rw [List.any_map]
  exact congrArg (fun f => L.any f) (funext fun x => (u8_beq x c).symm)
theorem mp_dw (L : List UInt8) (c : UInt8) : (L.map UInt8.toNat).dropWhile (· == c.toNat) = (L.dropWhile (· == c)).map UInt8.toNat := by
  rw [List.dropWhile_map]
  exact congrArg (fun f => (L.dropWhile f).map UInt8.toNat) (funext fun x => (u8_beq x c).symm)
theorem mp_dwn (L : List UInt8) (c : UInt8) : (L.map UInt8.toNat).dropWhile (· != c.toNat) = (L.dropWhile (· != c)).map UInt8.toNat := by
  rw [List.dropWhile_map]
  exact congrArg (fun f => (L.dropWhile f).map UInt8.toNat) (funext fun x => (u8_bne x c).symm)
theorem mp_tw (L : List UInt8) (c : UInt8) : (L.map UInt8.toNat).takeWhile (· != c.toNat) = (L.takeWhile (· != c)).map UInt8.toNat := by
  rw [List.takeWhile_map]
  exact congrArg (fun f => (L.takeWhile f).map UInt8.toNat) (funext fun x => (u8_bne x c).symm)
theorem mp_filter (L : List UInt8) (c : UInt8) : (L.map UInt8.toNat).filter (· != c.toNat) = (L.filter (· != c)).map UInt8.toNat := by
  rw [List.filter_map]
  exact congrArg (fun f => (L.filter f).map UInt8.toNat) (funext fun x => (u8_bne x c).symm)
/-- Where the one byte stands first. -/
theorem idx_one (c : UInt8) : ∀ L : List UInt8, Lib.index L [c] = if L.any (· == c) then ((L.takeWhile (· != c)).length : Int) else -1
  | [] => rfl
  | b :: l => by
    have ih := idx_one c l
    rw [Lib.index]
    by_cases h : b = c
    · subst h
      have h1 : ([b] : List UInt8).isPrefixOf (b :: l) = true := by simp [List.isPrefixOf]
      rw [if_pos h1]
      simp
    · have h1 : ¬ ([c] : List UInt8).isPrefixOf (b :: l) = true := by
        intro e
        simp only [List.isPrefixOf, Bool.and_true, beq_iff_eq] at e
        exact h e.symm
      have h2 : (b == c) = false := by simpa using h
      rw [if_neg h1, ih, List.any_cons, h2, Bool.false_or, List.takeWhile_cons_of_pos (by simp [h]), List.length_cons]
      split
      · rw [if_neg (by simp only [beq_iff_eq]; omega)]; omega
      · rfl
theorem tw_take {A : UInt8 → Bool} (L : List UInt8) : L.take (L.takeWhile A).length = L.takeWhile A := by
  conv => lhs; rw [← List.takeWhile_append_dropWhile (p := A) (l := L)]
  rw [List.take_append_of_le_length (by rw [List.takeWhile_append_dropWhile]; exact Nat.le_refl _), List.takeWhile_append_dropWhile, List.take_of_length_le (Nat.le_refl _)]
theorem tw_drop {A : UInt8 → Bool} (L : List UInt8) : L.drop (L.takeWhile A).length = L.dropWhile A := by
  induction L with
  | nil => rfl
  | cons b l ih =>
    by_cases h : A b = true
    · rw [List.takeWhile_cons_of_pos h, List.length_cons, List.drop_succ_cons, ih, List.dropWhile_cons_of_pos h]
    · rw [List.takeWhile_cons_of_neg h, List.dropWhile_cons_of_neg h]; rfl
theorem dw_nil8 {A : UInt8 → Bool} : ∀ {L : List UInt8}, (∀ x ∈ L, A x = true) → L.dropWhile A = []
  | [], _ => rfl
  | b :: l, h => by rw [List.dropWhile_cons_of_pos (h b (List.mem_cons_self ..))]; exact dw_nil8 fun x hx => h x (List.mem_cons_of_mem _ hx)
theorem nil_dw8 {A : UInt8 → Bool} : ∀ {L : List UInt8}, L.dropWhile A = [] → ∀ x ∈ L, A x = true
  | [], _, x, hx => by cases hx
  | b :: l, h, x, hx => by
    by_cases hb : A b = true
    · rw [List.dropWhile_cons_of_pos hb] at h
      rcases List.mem_cons.1 hx with rfl | hx
      · exact hb
      · exact nil_dw8 h x hx
    · rw [List.dropWhile_cons_of_neg hb] at h; cases h
theorem cut_one (L : List UInt8) (c : UInt8) : (Lib.cut L [c]).1.map UInt8.toNat = upA c.toNat (L.map UInt8.toNat) ∧ (Lib.cut L [c]).2.1.map UInt8.toNat = dnA c.toNat (L.map UInt8.toNat) ∧ (Lib.cut L [c]).2.2 = (L.map UInt8.toNat).any (· == c.toNat) := by
  unfold Lib.cut upA dnA
  rw [mp_tw, mp_dwn, mp_any, idx_one]
  cases h : L.any (· == c)
  · simp only [Bool.false_eq_true, if_false]
    rw [if_neg (by decide)]
    have hall : ∀ x ∈ L, (x != c) = true := fun x hx => by have := List.any_eq_false.1 h x hx; simpa using this
    refine ⟨?_, ?_, rfl⟩
    · rw [← List.append_nil (L.takeWhile _), List.append_nil]
      have := List.takeWhile_append_of_pos (l₂ := []) hall
      simp at this
      show L.map UInt8.toNat = _
      rw [this]
    · rw [dw_nil8 hall]; rfl
  · rw [if_pos rfl, if_pos (by omega)]
    have e : ((L.takeWhile (· != c)).length : Int).toNat = (L.takeWhile (· != c)).length := rfl
    refine ⟨?_, ?_, rfl⟩
    · show (L.take _).map _ = _
      rw [e, tw_take]
    · show (L.drop _).map _ = _
      rw [e, show [c].length = 1 from rfl, ← List.drop_drop, tw_drop, List.map_drop]
/-- Two commas, one behind the other. -/
def dblC : List Nat → Bool
  | a :: b :: t => (a == 44 && b == 44) || dblC (b :: t)
  | _ => false
theorem contains_two : ∀ L : List UInt8, Lib.contains L [44, 44] = dblC (L.map UInt8.toNat)
  | [] => rfl
  | [b] => by
    show decide _ = _
    rw [Lib.index, if_neg (by simp [List.isPrefixOf]), Lib.index]; rfl
  | a :: b :: t => by
    have ih := contains_two (b :: t)
    have ih' : decide (0 ≤ Lib.index (b :: t) [44, 44]) = dblC ((b :: t).map UInt8.toNat) := ih
    show decide (0 ≤ Lib.index (a :: b :: t) [44, 44]) = _
    rw [Lib.index]
    rw [List.map_cons, List.map_cons, dblC, ← List.map_cons, ← ih']
    have e : ([44, 44] : List UInt8).isPrefixOf (a :: b :: t) = (a.toNat == 44 && b.toNat == 44) := by
      have e1 := u8_beq a 44
      have e2 := u8_beq b 44
      rw [show (44 : UInt8).toNat = 44 from rfl] at e1 e2
      rw [← e1, ← e2]
      simp only [List.isPrefixOf, Bool.and_true]
      rw [BEq.comm (a := (44 : UInt8)) (b := a), BEq.comm (a := (44 : UInt8)) (b := b)]
    rw [e]
    have hge := Lib.index_ge (b :: t) [44, 44]
    cases (a.toNat == 44 && b.toNat == 44)
    · rw [if_neg (by decide), Bool.false_or]
      split
      · rename_i h
        rw [beq_iff_eq] at h
        rw [h]
      · rename_i h
        have h : ¬ Lib.index (b :: t) [44, 44] = -1 := by simpa using h
        rw [decide_eq_true (by omega), decide_eq_true (by omega)]
    · rw [if_pos rfl, Bool.true_or]
      decide
theorem prefix_one (L : List UInt8) (c : UInt8) : Lib.hasPrefix L [c] = decide ((L.map UInt8.toNat).head? = some c.toNat) := by
  unfold Lib.hasPrefix
  cases L with
  | nil => rfl
  | cons b l =>
    rw [Bool.eq_iff_iff]
    simp only [List.isPrefixOf, Bool.and_true, beq_iff_eq, List.map_cons, List.head?_cons, decide_eq_true_iff, Option.some.injEq, UInt8.toNat_inj]
    constructor <;> exact fun e => e.symm
theorem suffix_one (L : List UInt8) (c : UInt8) : Lib.hasSuffix L [c] = decide ((L.map UInt8.toNat).getLast? = some c.toNat) := by
  unfold Lib.hasSuffix
  rw [List.getLast?_eq_head?_reverse, ← List.map_reverse]
  have := prefix_one L.reverse c
  unfold Lib.hasPrefix at this
  rw [← this]; rfl
theorem trimP_one (L : List UInt8) (c : UInt8) : (Lib.trimPrefix L [c]).map UInt8.toNat = (L.map UInt8.toNat).drop (if (L.map UInt8.toNat).head? = some c.toNat then 1 else 0) := by
  unfold Lib.trimPrefix
  rw [prefix_one]
  by_cases h : (L.map UInt8.toNat).head? = some c.toNat
  · rw [if_pos (decide_eq_true h), if_pos h, List.map_drop]; rfl
  · rw [if_neg (by rw [decide_eq_false h]; decide), if_neg h]; rfl
theorem trimL_one (L : List UInt8) (c : UInt8) : (Lib.trimLeftB L c).map UInt8.toNat = (L.map UInt8.toNat).dropWhile (· == c.toNat) := by
  rw [mp_dw]; rfl
theorem trimR_one (L : List UInt8) (c : UInt8) : (Lib.trimRightB L c).map UInt8.toNat = ((L.map UInt8.toNat).reverse.dropWhile (· == c.toNat)).reverse := by
  rw [← List.map_reverse, mp_dw, ← List.map_reverse]; rfl
theorem repl_one (c : UInt8) : ∀ (L : List UInt8) (k : Nat), L.count c ≤ k → Lib.replaceK [c] [] k L = L.filter (· != c) := by
  intro L
  induction h : L.length using Nat.strongRecOn generalizing L with
  | _ n ih =>
    intro k hk
    cases k with
    | zero =>
      rw [Lib.replaceK]
      have : c ∉ L := List.count_eq_zero.1 (by omega)
      rw [List.filter_eq_self.2]
      intro x hx
      have : x ≠ c := fun e => this (e ▸ hx)
      simpa using this
    | succ k =>
      rw [Lib.replaceK, idx_one]
      cases ha : L.any (· == c)
      · simp only [Bool.false_eq_true, if_false]
        rw [if_pos (by decide)]
        refine (List.filter_eq_self.2 fun x hx => ?_).symm
        have := List.any_eq_false.1 ha x hx
        simpa using this
      · rw [if_pos rfl, if_neg (by simp only [beq_iff_eq]; omega)]
        have e : ((L.takeWhile (· != c)).length : Int).toNat = (L.takeWhile (· != c)).length := rfl
        rw [e, tw_take, show [c].length = 1 from rfl, ← List.drop_drop, tw_drop, List.append_nil]
        obtain ⟨d, t, hdt⟩ : ∃ d t, L.dropWhile (· != c) = d :: t := by
          cases hd : L.dropWhile (· != c) with
          | nil =>
            obtain ⟨x, hx, hxc⟩ := List.any_eq_true.1 ha
            have := nil_dw8 hd x hx
            rw [bne, hxc] at this
            cases this
          | cons d t => exact ⟨d, t, rfl⟩
        have hdc : d = c := by
          have := List.head?_dropWhile_not (p := fun x => x != c) (l := L)
          rw [hdt, List.head?_cons] at this
          simpa using this
        subst hdc
        have hL := List.takeWhile_append_dropWhile (p := fun x => x != d) (l := L)
        rw [hdt] at hL
        have hlen : t.length < n := by
          have := congrArg List.length hL
          rw [List.length_append, List.length_cons] at this
          omega
        have hcnt : t.count d ≤ k := by
          have h1 : L.count d = (L.takeWhile (· != d) ++ d :: t).count d := by rw [hL]
          rw [List.count_append, List.count_cons_self] at h1
          omega
        rw [hdt, List.drop_succ_cons, List.drop_zero, ih t.length hlen t rfl k hcnt]
        conv => rhs; rw [← hL]
        rw [List.filter_append, List.filter_cons_of_neg (by simp), List.filter_eq_self.2 fun x hx => List.all_eq_true.1 List.all_takeWhile x hx]
theorem replA_one (L : List UInt8) (c : UInt8) : (Lib.replaceAll L [c] []).map UInt8.toNat = (L.map UInt8.toNat).filter (· != c.toNat) := by
  rw [mp_filter]
  congr 1
  unfold Lib.replaceAll Lib.replace
  rw [if_neg (by simp)]
  refine repl_one c L _ ?_
  unfold Lib.replaceNum
  rw [if_pos (.inl (by decide)), Lib.count_one]
  exact Nat.le_refl _
theorem repeat_one (c : UInt8) : ∀ n, (Lib.repeatL [c] n).map UInt8.toNat = List.replicate n c.toNat
  | 0 => rfl
  | n + 1 => by rw [Lib.repeatL, List.map_append, repeat_one c n, List.replicate_succ]; rfl
/-- The last place of a byte. -/
theorem last_spec (s : ByteArray) (c : Nat) : (Lib.lastIndexByte s (c : Int) = -1 ∧ ∀ x ∈ bts s, x ≠ c) ∨
    (∃ i : Nat, i < s.size ∧ Lib.lastIndexByte s (c : Int) = i ∧ bts s = (bts s).take i ++ c :: (bts s).drop (i + 1) ∧ ∀ x ∈ (bts s).drop (i + 1), x ≠ c) := by
  have hget : ∀ j, j < s.size → (s.data[j]!).toNat = (bts s).getD j 0 := by
    intro j hj
    rw [bts_getD]; rfl
  rcases Lib.lastIdx_spec s (c : Int) s.size with ⟨h, hn⟩ | ⟨i, hi, h, hc, hn⟩
  · refine .inl ⟨h, fun x hx => ?_⟩
    obtain ⟨j, hj, e⟩ := List.getElem_of_mem hx
    have hj' : j < s.size := by rw [← bts_length]; exact hj
    have := hn j hj'
    rw [hget j hj', List.getD, List.getElem?_eq_getElem hj, Option.getD_some, e] at this
    omega
  · refine .inr ⟨i, hi, h, ?_, fun x hx => ?_⟩
    · have e := bts_split hi
      have h1 : s[i].toNat = c := by
        rw [hget i hi, bts_get s i hi] at hc
        omega
      rwa [h1] at e
    · obtain ⟨j, hj, e⟩ := List.getElem_of_mem hx
      rw [List.length_drop, bts_length] at hj
      have hj' : i + 1 + j < s.size := by omega
      have := hn (i + 1 + j) (by omega) hj'
      rw [hget _ hj', List.getD, List.getElem?_eq_getElem (by rw [bts_length]; exact hj'), Option.getD_some] at this
      rw [List.getElem_drop] at e
      rw [e] at this
      omega
/- Runes of sorts below 128. -/
theorem dec_lo {l : List Nat} {b : Nat} {t : List Nat} (e : l = b :: t) (h : b < 128) : decL l = (b, 1) := by
  subst e
  unfold decL
  show Lib.decodeN _ b _ _ _ = _
  unfold Lib.decodeN
  rw [if_pos h]
theorem dec_hi {l : List Nat} (hb : ∀ b ∈ l, b < 256) {b : Nat} {t : List Nat} (e : l = b :: t) (h : 128 ≤ b) : 128 ≤ (decL l).1 ∧ ∀ x ∈ l.take (decL l).2, 128 ≤ x := by
  by_cases h1 : decL l = (65533, 1)
  · rw [h1, e]
    exact ⟨by decide, fun x hx => by simp at hx; omega⟩
  · obtain ⟨_, h2, h3⟩ := dec_good hb (by rw [e]; simp) h1
    have h4 : (encN (decL l).1).head? = some b := by
      rw [← h3, e]
      have := encN_pos (decL l).1
      rw [h2, e] at this
      rw [List.head?_take, if_neg (by omega)]; rfl
    have h5 : 128 ≤ (decL l).1 ∧ ∀ x ∈ encN (decL l).1, 128 ≤ x := by
      rcases encN_cases (decL l).1 with ⟨c1, c2⟩ | ⟨c0, c1, c2⟩ | ⟨c0, c1, c2⟩ | ⟨c0, c2⟩
      · rw [c2, List.head?_cons] at h4
        cases h4
        omega
      · exact ⟨c0, fun x hx => by rw [c2] at hx; simp at hx; omega⟩
      · exact ⟨by omega, fun x hx => by rw [c2] at hx; simp at hx; omega⟩
      · exact ⟨by omega, fun x hx => by rw [c2] at hx; simp at hx; omega⟩
    rw [h3]; exact h5
theorem drop_split {l : List Nat} {pos : Nat} (h : pos < l.length) : ∃ b t, l.drop pos = b :: t ∧ l.drop (pos + 1) = t := ⟨l[pos], l.drop (pos + 1), List.drop_eq_getElem_cons h, rfl⟩
/-- A sort of bytes below 128. -/
def LoA (A : Nat → Bool) : Prop := ∀ c, A c = true → c < 128
theorem LoA.hi {A : Nat → Bool} (h : LoA A) {c : Nat} (hc : 128 ≤ c) : A c = false := by
  cases e : A c
  · rfl
  · have := h c e; omega
theorem idxF_false {A : Nat → Bool} (hA : LoA A) (s : ByteArray) : ∀ f pos, s.size ≤ pos + f → pos ≤ s.size →
    Lib.idxFuncFrom A false s f pos = if ((bts s).drop pos).dropWhile A = [] then -1 else ((s.size - (((bts s).drop pos).dropWhile A).length : Nat) : Int) := by
  intro f
  induction f with
  | zero =>
    intro pos h hp
    rw [Lib.idxFuncFrom, List.drop_of_length_le (by rw [bts_length]; omega)]; rfl
  | succ f ih =>
    intro pos h hp
    rw [Lib.idxFuncFrom]
    by_cases hps : pos < s.size
    · rw [if_pos hps, decode_bts]
      obtain ⟨b, t, e1, e2⟩ := drop_split (l := bts s) (pos := pos) (by rw [bts_length]; exact hps)
      have hlen : t.length + 1 + pos = s.size := by
        have := congrArg List.length e1
        rw [List.length_drop, bts_length, List.length_cons] at this
        omega
      have hstop : A b = false → (A (decL ((bts s).drop pos)).1 = false) → (if A (decL ((bts s).drop pos)).1 = false then (pos : Int) else Lib.idxFuncFrom A false s f (pos + (decL ((bts s).drop pos)).2)) = if ((bts s).drop pos).dropWhile A = [] then -1 else ((s.size - (((bts s).drop pos).dropWhile A).length : Nat) : Int) := by
        intro h1 h2
        rw [if_pos h2, e1, List.dropWhile_cons_of_neg (by rw [h1]; decide), if_neg (by simp), List.length_cons]
        congr 1; omega
      by_cases hb : b < 128
      · have hd := dec_lo e1 hb
        cases hAb : A b
        · exact hstop hAb (by rw [hd]; exact hAb)
        · rw [hd, if_neg (by show ¬ A b = false; rw [hAb]; decide), ih (pos + 1) (by omega) (by omega), e2, e1, List.dropWhile_cons_of_pos hAb]
      · exact hstop (hA.hi (by omega)) (hA.hi (dec_hi (bts_drop_lt s pos) e1 (by omega)).1)
    · rw [if_neg hps, List.drop_of_length_le (by rw [bts_length]; omega)]; rfl
theorem dropWhile_len_le (A : Nat → Bool) (l : List Nat) : (l.dropWhile A).length ≤ l.length := (List.dropWhile_sublist _).length_le
theorem drop_dropWhile (A : Nat → Bool) : ∀ l : List Nat, l.drop (l.length - (l.dropWhile A).length) = l.dropWhile A
  | [] => rfl
  | b :: l => by
    by_cases h : A b = true
    · rw [List.dropWhile_cons_of_pos h, List.length_cons]
      have := dropWhile_len_le A l
      rw [show l.length + 1 - (l.dropWhile A).length = (l.length - (l.dropWhile A).length) + 1 by omega, List.drop_succ_cons, drop_dropWhile A l]
    · rw [List.dropWhile_cons_of_neg h, Nat.sub_self]; rfl
theorem trimF_lo {A : Nat → Bool} (hA : LoA A) (s : ByteArray) : Lib.trimLeftF A s = stz ((bts s).dropWhile A) := by
  have h := idxF_false hA s s.size 0 (by omega) (Nat.zero_le _)
  rw [List.drop_zero] at h
  unfold Lib.trimLeftF
  rw [show Lib.idxFunc A false s = Lib.idxFuncFrom A false s s.size 0 from rfl, h]
  by_cases he : (bts s).dropWhile A = []
  · rw [if_pos he, if_pos rfl, he]; rfl
  · have hl := dropWhile_len_le A (bts s)
    rw [bts_length] at hl
    rw [if_neg he, if_neg (by omega)]
    refine eq_stz ?_
    rw [bts_from]
    have := drop_dropWhile A (bts s)
    rw [bts_length] at this
    exact this
theorem idxF_true {A : Nat → Bool} (hA : LoA A) (s : ByteArray) : ∀ f pos, s.size ≤ pos + f → decide (0 ≤ Lib.idxFuncFrom A true s f pos) = ((bts s).drop pos).any A := by
  intro f
  induction f with
  | zero =>
    intro pos h
    rw [Lib.idxFuncFrom, List.drop_of_length_le (by rw [bts_length]; omega)]; rfl
  | succ f ih =>
    intro pos h
    rw [Lib.idxFuncFrom]
    by_cases hps : pos < s.size
    · rw [if_pos hps, decode_bts]
      obtain ⟨b, t, e1, e2⟩ := drop_split (l := bts s) (pos := pos) (by rw [bts_length]; exact hps)
      by_cases hb : b < 128
      · have hd := dec_lo e1 hb
        cases hAb : A b
        · rw [hd, if_neg (by show ¬ A b = true; rw [hAb]; decide), ih (pos + 1) (by omega), e2, e1, List.any_cons, hAb, Bool.false_or]
        · rw [hd, if_pos hAb, e1, List.any_cons, hAb, Bool.true_or, decide_eq_true (by omega)]
      · obtain ⟨h1, h2⟩ := dec_hi (bts_drop_lt s pos) e1 (by omega)
        have hw : 1 ≤ (decL ((bts s).drop pos)).2 := by rw [← decode_bts]; exact Lib.width_pos s pos
        rw [if_neg (by rw [hA.hi h1]; decide), ih _ (by omega), ← List.drop_drop]
        conv => rhs; rw [← List.take_append_drop (decL ((bts s).drop pos)).2 ((bts s).drop pos), List.any_append]
        rw [any_false fun c hc => hA.hi (h2 c hc), Bool.false_or]
    · rw [if_neg hps, List.drop_of_length_le (by rw [bts_length]; omega)]; rfl
theorem idxF_any {A : Nat → Bool} (hA : LoA A) (s : ByteArray) : decide (0 ≤ Lib.idxFunc A true s) = (bts s).any A := by
  have := idxF_true hA s s.size 0 (by omega)
  rwa [List.drop_zero] at this
end Go.Proofs.YtogipbgfnjbakaaDoor
