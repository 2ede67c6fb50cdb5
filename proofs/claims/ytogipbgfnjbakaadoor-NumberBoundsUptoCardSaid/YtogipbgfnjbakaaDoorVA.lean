/-
  VA: items of an affix, plain and in memory.
-/
import Derived.Test.YtogipbgfnjbakaaDoorTB
set_option maxRecDepth 100000
namespace Go.Proofs.YtogipbgfnjbakaaDoor
open Go.RowKit
/-- An item: its kind, its code point. -/
abbrev Itm := Int × Int
/-- The signs, the marks, and what else needs quotes. -/
def sgs : List Nat := [45, 43, 37, 8240, 164]
def mks : List Nat := [35, 48, 49, 50, 51, 52, 53, 54, 55, 56, 57, 64, 44, 46, 59, 42]
def oth : List Nat := [69, 39]
def sgn (k : Nat) : Nat := sgs.getD k 0
/-- Where a sign stands among the signs' bytes. -/
def sgo (k : Nat) : Nat := [0, 1, 2, 3, 6, 8].getD k 8
/-- A sign's kind; 0: it is none. -/
def sgK (r : Int) : Int := if r = 45 then 2 else if r = 43 then 3 else if r = 37 then 4 else if r = 8240 then 5 else if r = 164 then 6 else 0
def mrk (r : Int) : Bool := decide (r ∈ ints mks)
def nds (r : Int) : Bool := decide (r ∈ ints sgs) || mrk r || decide (r ∈ ints oth)
theorem sgs_cons : ints sgs = [45, 43, 37, 8240, 164] := rfl
theorem mks_cons : ints mks = [35, 48, 49, 50, 51, 52, 53, 54, 55, 56, 57, 64, 44, 46, 59, 42] := rfl
theorem oth_cons : ints oth = [69, 39] := rfl
theorem sgs_iff {r : Int} : r ∈ ints sgs ↔ r = 45 ∨ r = 43 ∨ r = 37 ∨ r = 8240 ∨ r = 164 := by simp [sgs_cons]
theorem mrk_iff {r : Int} : mrk r = true ↔ (48 ≤ r ∧ r ≤ 57) ∨ r = 35 ∨ r = 64 ∨ r = 44 ∨ r = 46 ∨ r = 59 ∨ r = 42 := by
  rw [mrk, decide_eq_true_iff, mks_cons]
  simp only [List.mem_cons, List.not_mem_nil, or_false]
  omega
theorem sgK_pos {r : Int} : sgK r ≠ 0 ↔ r ∈ ints sgs := by
  rw [sgs_iff]; unfold sgK; repeat' split
  all_goals simp_all
theorem sgK_zero {r : Int} : sgK r = 0 ↔ ¬ r ∈ ints sgs := by rw [← sgK_pos]; simp
theorem sgK_sgn {k : Nat} (h : k < 5) : sgK ((sgn k : Nat) : Int) = 2 + (k : Int) := by
  have : k = 0 ∨ k = 1 ∨ k = 2 ∨ k = 3 ∨ k = 4 := by omega
  rcases this with rfl | rfl | rfl | rfl | rfl <;> rfl
theorem sgK_none {r : Int} (h : ∀ k, k < 5 → r ≠ ((sgn k : Nat) : Int)) : sgK r = 0 := by
  rw [sgK_zero, sgs_iff]
  have h0 := h 0 (by omega)
  have h1 := h 1 (by omega)
  have h2 := h 2 (by omega)
  have h3 := h 3 (by omega)
  have h4 := h 4 (by omega)
  simp only [sgn, sgs, List.getD] at h0 h1 h2 h3 h4
  simp at h0 h1 h2 h3 h4
  omega
theorem sgK_range (r : Int) : 0 ≤ sgK r ∧ sgK r ≤ 6 := by unfold sgK; repeat' split
                                                          all_goals omega
theorem nds_iff {r : Int} : nds r = true ↔ r ∈ ints sgs ∨ mrk r = true ∨ r = 69 ∨ r = 39 := by
  rw [nds, Bool.or_eq_true, Bool.or_eq_true, decide_eq_true_iff, decide_eq_true_iff, oth_cons]
  simp only [List.mem_cons, List.not_mem_nil, or_false]
  constructor
  · rintro ((h | h) | h | h)
    · exact .inl h
    · exact .inr (.inl h)
    · exact .inr (.inr (.inl h))
    · exact .inr (.inr (.inr h))
  · rintro (h | h | h | h)
    · exact .inl (.inl h)
    · exact .inl (.inr h)
    · exact .inr (.inl h)
    · exact .inr (.inr h)
/-- A token's item, if it is no plain mark. -/
def itm (t : Tok) : Itm := if t.2.1 = false ∧ sgK t.1 ≠ 0 then (sgK t.1, 0) else (1, t.1)
theorem itm_q {t : Tok} (h : t.2.1 = true) : itm t = (1, t.1) := by rw [itm, if_neg (by rw [h]; simp)]
theorem itm_p {t : Tok} (h : sgK t.1 = 0) : itm t = (1, t.1) := by rw [itm, if_neg (by rw [h]; simp)]
theorem itm_s {t : Tok} (h : t.2.1 = false) (h' : sgK t.1 ≠ 0) : itm t = (sgK t.1, 0) := by rw [itm, if_pos ⟨h, h'⟩]
/-- A plain mark. -/
def badT (t : Tok) : Bool := !t.2.1 && mrk t.1
/-- What Items answers of tokens: items, error, place. -/
def itms (ts : List Tok) : List Itm × Int × Int :=
  match ts.find? badT with
  | some t => ([], 4, t.2.2)
  | none => if 40 < ts.length then ([], 8, 0) else (ts.map itm, 0, 0)
theorem itms_bad {ts : List Tok} {t : Tok} (h : ts.find? badT = some t) : itms ts = ([], 4, t.2.2) := by rw [itms, h]
theorem itms_long {ts : List Tok} (h : ts.find? badT = none) (hl : 40 < ts.length) : itms ts = ([], 8, 0) := by rw [itms, h]; exact if_pos hl
theorem itms_ok {ts : List Tok} (h : ts.find? badT = none) (hl : ¬ 40 < ts.length) : itms ts = (ts.map itm, 0, 0) := by rw [itms, h]; exact if_neg hl
/-- The first plain mark is the k-th token. -/
theorem find_at {ts : List Tok} {k : Nat} (hk : k < ts.length) (h : (ts.take k).find? badT = none) (hb : badT (tk ts k) = true) : ts.find? badT = some (tk ts k) := by
  have e : ts = ts.take k ++ tk ts k :: ts.drop (k + 1) := by
    conv => lhs; rw [← List.take_append_drop k ts, List.drop_eq_getElem_cons hk, ← tk_eq hk]
  rw [e, List.find?_append, h]
  simp only [Option.none_or]
  rw [← e, List.find?_cons, hb]
theorem find_take {ts : List Tok} {k : Nat} (hk : k < ts.length) (h : (ts.take k).find? badT = none) (hb : badT (tk ts k) = false) : (ts.take (k + 1)).find? badT = none := by
  rw [List.take_succ_eq_append_getElem hk, List.find?_append, h, ← tk_eq hk]
  simp [hb]
/-- Whether an item may be. -/
def mayI (i : Itm) : Bool := (decide (i.1 = 1) && isZ i.2) || (decide (2 ≤ i.1) && decide (i.1 ≤ 6) && decide (i.2 = 0))
theorem mayI_iff {k r : Int} : mayI (k, r) = true ↔ (k = 1 ∧ isZ r = true) ∨ (2 ≤ k ∧ k ≤ 6 ∧ r = 0) := by
  simp [mayI, and_assoc]
/-- The token that tells an item. -/
def tkI (i : Itm) : Tok := if i.1 = 1 then (i.2, nds i.2, 0) else (((sgn (i.1.toNat - 2) : Nat) : Int), false, 0)
theorem tkI_lit (r : Int) : tkI (1, r) = (r, nds r, 0) := rfl
theorem tkI_sign {k : Nat} (r : Int) : tkI (2 + (k : Int), r) = (((sgn k : Nat) : Int), false, 0) := by
  rw [tkI, if_neg (by omega), show (2 + (k : Int)).toNat - 2 = k by omega]
/-- What Tokens answers of items. -/
def tksI (is : List Itm) : List Tok := if is.all mayI then is.map tkI else []
theorem tksI_may {is : List Itm} (h : is.all mayI = true) : tksI is = is.map tkI := by rw [tksI, if_pos h]
theorem tksI_no {is : List Itm} (h : is.all mayI = false) : tksI is = [] := by rw [tksI, if_neg (by rw [h]; decide)]
theorem tksI_len (is : List Itm) : (tksI is).length ≤ is.length := by
  unfold tksI; split
  · rw [List.length_map]; exact Nat.le_refl _
  · exact Nat.zero_le _
theorem sgn_Z {k : Nat} (h : k < 5) : isZ ((sgn k : Nat) : Int) = true ∧ ((sgn k : Nat) : Int) ≠ 39 ∧ mrk ((sgn k : Nat) : Int) = false := by
  have : k = 0 ∨ k = 1 ∨ k = 2 ∨ k = 3 ∨ k = 4 := by omega
  rcases this with rfl | rfl | rfl | rfl | rfl <;> exact ⟨by decide, by decide, by decide⟩
theorem mayI_form {i : Itm} (h : mayI i = true) : (i.1 = 1 ∧ isZ i.2 = true) ∨ ∃ k : Nat, k < 5 ∧ i = (2 + (k : Int), 0) := by
  obtain ⟨a, r⟩ := i
  rcases mayI_iff.1 h with h | ⟨h1, h2, h3⟩
  · exact .inl h
  · exact .inr ⟨a.toNat - 2, by omega, by rw [h3, show 2 + ((a.toNat - 2 : Nat) : Int) = a by omega]⟩
theorem nds_39 {r : Int} (h : nds r = false) : r ≠ 39 ∧ sgK r = 0 ∧ mrk r = false := by
  have h' : ¬ nds r = true := by rw [h]; decide
  rw [nds_iff] at h'
  simp only [not_or] at h'
  obtain ⟨h1, h2, _, h3⟩ := h'
  exact ⟨h3, sgK_zero.2 h1, by simpa using h2⟩
/-- An item's token may be printed, is no plain mark, and tells the item. -/
theorem tkI_back {i : Itm} (h : mayI i = true) : mayT (tkI i) = true ∧ badT (tkI i) = false ∧ itm (tkI i) = i := by
  rcases mayI_form h with ⟨h1, h2⟩ | ⟨k, hk, rfl⟩
  · obtain ⟨a, r⟩ := i
    dsimp only at h1 h2
    subst h1
    rw [tkI_lit]
    rcases hn : nds r with _ | _
    · obtain ⟨n1, n2, n3⟩ := nds_39 hn
      refine ⟨?_, ?_, itm_p n2⟩
      · simp [mayT, h2, n1]
      · simp [badT, n3]
    · exact ⟨by simp [mayT, h2], rfl, itm_q rfl⟩
  · obtain ⟨z1, z2, z3⟩ := sgn_Z hk
    rw [tkI_sign]
    refine ⟨?_, ?_, ?_⟩
    · simp [mayT, z1, z2]
    · simp [badT, z3]
    · rw [itm_s rfl (by dsimp only; rw [sgK_sgn hk]; omega)]
      dsimp only
      rw [sgK_sgn hk]
theorem tksI_mayT (is : List Itm) : (tksI is).all mayT = true := by
  unfold tksI; split
  · rename_i h
    refine List.all_eq_true.2 fun t ht => ?_
    obtain ⟨i, hi, rfl⟩ := List.mem_map.1 ht
    exact (tkI_back (List.all_eq_true.1 h i hi)).1
  · rfl
theorem find_none {ts : List Tok} (h : ∀ t ∈ ts, badT t = false) : ts.find? badT = none := by
  rw [List.find?_eq_none]
  intro t ht
  rw [h t ht]; decide
theorem itm_er {t t' : Tok} (h : er t = er t') : itm t = itm t' ∧ badT t = badT t' := by
  obtain ⟨r, q, a⟩ := t
  obtain ⟨r', q', a'⟩ := t'
  simp only [er, Prod.mk.injEq] at h
  obtain ⟨rfl, rfl⟩ := h
  exact ⟨rfl, rfl⟩
/-- Tokens that tell items, wherever they stand, tell these. -/
theorem itms_back {is : List Itm} {ts : List Tok} (h : is.all mayI = true) (hl : is.length ≤ 40) (he : ts.map er = (tksI is).map er) : itms ts = (is, 0, 0) := by
  rw [tksI_may h, List.map_map] at he
  have hlen : ts.length = is.length := by have := congrArg List.length he; simpa using this
  have hat : ∀ (j : Nat) (h1 : j < ts.length) (h2 : j < is.length), er ts[j] = er (tkI is[j]) := by
    intro j h1 h2
    have e : (ts.map er)[j]? = (is.map (er ∘ tkI))[j]? := by rw [he]
    rw [List.getElem?_map, List.getElem?_map, List.getElem?_eq_getElem h1, List.getElem?_eq_getElem h2] at e
    simpa using e
  have hb : ts.find? badT = none := by
    refine find_none fun t ht => ?_
    obtain ⟨j, hj, rfl⟩ := List.mem_iff_getElem.1 ht
    rw [(itm_er (hat j hj (by omega))).2]
    exact (tkI_back (List.all_eq_true.1 h _ (List.getElem_mem (by omega)))).2.1
  rw [itms_ok hb (by omega)]
  refine Prod.ext ?_ rfl
  refine List.ext_getElem (by rw [List.length_map]; exact hlen) fun j h1 h2 => ?_
  rw [List.length_map] at h1
  dsimp only at h2
  rw [List.getElem_map, (itm_er (hat j h1 h2)).1]
  exact (tkI_back (List.all_eq_true.1 h _ (List.getElem_mem h2))).2.2
theorem itms_len (ts : List Tok) : (itms ts).1.length ≤ 40 := by
  unfold itms; split
  · exact Nat.zero_le _
  · split
    · exact Nat.zero_le _
    · simp; omega
/-- An item's cells. -/
def itmV (i : Itm) : List Value := [.int .i64 i.1, .int .i32 i.2]
def itsV (is : List Itm) : List Value := is.flatMap itmV
theorem itsV_cons (i : Itm) (is : List Itm) : itsV (i :: is) = itmV i ++ itsV is := rfl
theorem itsV_length (is : List Itm) : (itsV is).length = is.length * 2 := by
  induction is with
  | nil => rfl
  | cons i is ih => rw [itsV_cons, List.length_append, ih]; simp only [itmV, List.length_cons, List.length_nil]; omega
theorem itsV_append (is js : List Itm) : itsV (is ++ js) = itsV is ++ itsV js := by simp [itsV]
theorem itsV_one (i : Itm) : itsV [i] = itmV i := by simp [itsV]
/-- The k-th item. -/
def im (is : List Itm) (k : Nat) : Itm := is.getD k (0, 0)
theorem im_eq {is : List Itm} {k : Nat} (h : k < is.length) : im is k = is[k] := by simp [im, List.getD, List.getElem?_eq_getElem h]
theorem im_mem {is : List Itm} {k : Nat} (h : k < is.length) : im is k ∈ is := by rw [im_eq h]; exact List.getElem_mem h
theorem im_take_succ (is : List Itm) {k : Nat} (h : k < is.length) : is.take (k + 1) = is.take k ++ [im is k] := by
  rw [List.take_succ_eq_append_getElem h, im_eq h]
theorem itsV_get (is : List Itm) : ∀ (k j : Nat), k < is.length → j < 2 → (itsV is)[k * 2 + j]? = (itmV (im is k))[j]? := by
  induction is with
  | nil => intro k j h _; simp at h
  | cons t ts ih =>
    intro k j h hj
    cases k with
    | zero =>
      rw [itsV_cons, List.getElem?_append_left (by show _ < 2; omega)]
      simp [im]
    | succ k =>
      rw [itsV_cons, List.getElem?_append_right (by show 2 ≤ _; omega)]
      rw [show (k + 1) * 2 + j - (itmV t).length = k * 2 + j by show _ - 2 = _; omega, ih k j (by simpa using h) hj]
      simp [im]
def RI (i : Itm) : Prop := (-9223372036854775808 ≤ i.1 ∧ i.1 ≤ 9223372036854775807) ∧ -2147483648 ≤ i.2 ∧ i.2 ≤ 2147483647
theorem ri_itm {t : Tok} (h : R32 t) : RI (itm t) := by
  have := sgK_range t.1
  unfold itm; split
  · exact ⟨⟨by dsimp only; omega, by dsimp only; omega⟩, by dsimp only; omega, by dsimp only; omega⟩
  · exact ⟨⟨by dsimp only; omega, by dsimp only; omega⟩, h⟩
theorem r32_tkI {i : Itm} (h : RI i) : R32 (tkI i) := by
  unfold tkI; split
  · exact h.2
  · have hg : sgn (i.1.toNat - 2) ≤ 8240 := by
      rcases Nat.lt_or_ge (i.1.toNat - 2) 5 with hk | hk
      · generalize i.1.toNat - 2 = k at hk
        have : k = 0 ∨ k = 1 ∨ k = 2 ∨ k = 3 ∨ k = 4 := by omega
        rcases this with rfl | rfl | rfl | rfl | rfl <;> decide
      · rw [sgn, List.getD, List.getElem?_eq_none hk]; decide
    exact ⟨by dsimp only; omega, by dsimp only; omega⟩
/-- A slice that reads as the items is. -/
def Its (w : World) (A : Option Addr) (n : Nat) (is : List Itm) : Prop := Reads w w.heap.size 2 A n (itsV is) ∧ n ≤ 36000000000000 ∧ ∀ i ∈ is, RI i
section
variable {w w' : World} {n : Nat} {A : Option Addr} {is : List Itm}
theorem Its.len (h : Its w A n is) : is.length = n := by have := h.1.1; rw [itsV_length] at this; omega
theorem Its.below (h : Its w A n is) (hb : Below w.heap.size w w') : Its w' A n is := ⟨(h.1.below hb).more hb.size, h.2⟩
theorem Its.at_ {k : Nat} (h : Its w A n is) (hk : k < n) : ∃ ad, A = some ad ∧ ad.block < w.heap.size ∧ w.cell? (ad.add (k * 2)) = some (.int .i64 (im is k).1) ∧ w.cell? ⟨(ad.add (k * 2)).block, (ad.add (k * 2)).off + 1, none⟩ = some (.int .i32 (im is k).2) ∧ RI (im is k) := by
  obtain ⟨ad, e, hb, hc⟩ := h.1.2 (by omega)
  have hl : k < is.length := by rw [h.len]; exact hk
  have f1 := hc (k * 2 + 1) (.int .i32 (im is k).2) (by rw [itsV_get is k 1 hl (by omega)]; rfl)
  rw [← add_of_add] at f1
  refine ⟨ad, e, hb, hc (k * 2) _ ?_, f1, ?_⟩
  · have := itsV_get is k 0 hl (by omega); rw [Nat.add_zero] at this; rw [this]; rfl
  · rw [im_eq hl]; exact h.2.2 _ (List.getElem_mem hl)
end
theorem its_nil (w : World) : Its w none 0 [] := ⟨Reads.none_, by omega, by simp⟩
theorem itm_info : (Tryd.prog.info? 63).map (fun i => (i.zero, i.size, i.bytes)) = some (some (.agg #[.int .i64 0, .int .i32 0]), 2, 16) := by kernel_rfl
/-- A slice in new memory (from block base on), that holds the items is. -/
def OwnI (w : World) (base : Nat) (A : Option Addr) (m c : Nat) (is : List Itm) : Prop :=
  w.ownsRow base 63 2 (.slice A m c) m (itsV is) ∧ m ≤ 10000000000 ∧ ∀ i ∈ is, RI i
section
variable {w w' : World} {base m c : Nat} {A : Option Addr} {is : List Itm}
theorem OwnI.len (h : OwnI w base A m c is) : is.length = m := by have := h.1.1; rw [itsV_length] at this; omega
theorem OwnI.its (h : OwnI w base A m c is) : Its w A m is := ⟨Reads.of_own h.1, Nat.le_trans h.2.1 (by omega), h.2.2⟩
theorem OwnI.keep {B : Nat} (h : OwnI w base A m c is) (hb : Below B w w') (hB : B = w.heap.size) : OwnI w' base A m c is := by
  subst hB
  refine ⟨h.1.kept (row := none) ⟨hb.os, hb.tape, hb.output, hb.size, fun k hk _ => hb.block k hk⟩ ?_, h.2⟩
  cases hv : (Value.slice A m c).ownBlock <;> simp
end
theorem ownI_nil (w : World) (base : Nat) : OwnI w base none 0 0 [] := ⟨World.ownsRow_nil _ _ _ _, by omega, by simp⟩
/-- 'list = append(list, i)' of one item. -/
theorem wpList_app_itm {W w0 : World} {ops : Array Oper} {rest : List Oper} {o : Oper} {a : Act} {Q : Exit → Act → World → Prop} (hgd : o.guard = none) (s x : Operand) (t : TypeId)
    (ho : o.op = .call { callee := .builtin .append, args := #[s, x], argTypes := #[t, t] }) (ht : Tryd.prog.underlying t = some (.slice 63))
    (base : Nat) (v : Value) (k : Nat) (is : List Itm) (hs : a.eval s = v) (hown : W.ownsRow base 63 2 v k (itsV is)) (u : Itm)
    (hx : a.eval x = .slice (some ⟨W.heap.size, 0, none⟩) 1 1) (p r : Int) (hu : u = (p, r)) (hk : k ≤ 1000000000000) (hb : Below base w0 W) (hbase : base ≤ W.heap.size)
    (h : ∀ v' w', Hid (w'.ownsRow base 63 2 v' (k + 1) (itsV (is ++ [u]))) → Hid (Below base w0 w') → Hid (∀ k, k < W.heap.size → v.ownBlock ≠ some k → w'.heap[k]? = W.heap[k]?) → wpList Tryd.prog ops Q rest (a.put o.dst v') w') :
    wpList Tryd.prog ops Q (o :: rest) a (W.alloc (.cells #[.int .i64 p, .int .i32 r] 63)) := by
  obtain ⟨i0, hi, hz0, hz1, hz2⟩ := info_parts itm_info
  subst hu
  refine wpList_append_own _ hgd s x t ho base 63 i0 _ 2 16 ht hi hz0 hz1 hz2 rfl (by decide) v k _ hs (hown.alloc _) ⟨W.heap.size, 0, none⟩ 1 1 [.int .i64 p, .int .i32 r] hx rfl (cells_row W _ _) ?_ ?_ ?_ ?_ ?_
  · intro v hv
    simp only [List.mem_cons, List.not_mem_nil, or_false] at hv
    rcases hv with rfl | rfl <;> rfl
  · unfold maxLen; omega
  · omega
  · simp; omega
  · intro v' w' h1 h2 _
    refine h v' w' ?_ ?_ ?_
    · rw [itsV_append, itsV_one]; exact h1
    · refine (hb.alloc hbase _).grown h2 (by simp; omega) fun j hj => ?_
      exact (hown.lt j hj).1
    · intro k hk hne
      rw [h2.block k (by simp; omega) (fun e => hne e.symm)]
      show (W.heap.push _)[k]? = _
      rw [Array.getElem?_push_lt hk, Array.getElem?_eq_getElem hk]
/-- The signs' bytes. -/
def sgB : ByteArray := ⟨#[45, 43, 37, 226, 128, 176, 194, 164]⟩
def mkB : ByteArray := ⟨#[35, 48, 49, 50, 51, 52, 53, 54, 55, 56, 57, 64, 44, 46, 59, 42]⟩
def otB : ByteArray := ⟨#[69, 39]⟩
theorem sgB_eq : stz (encs sgs) = sgB := by decide +kernel
theorem mkB_eq : stz (encs mks) = mkB := by decide +kernel
theorem otB_eq : stz (encs oth) = otB := by decide +kernel
theorem sg_step {k : Nat} (h : k < 5) : Utf8.decode sgB (sgo k) = (sgn k, sgo (k + 1) - sgo k) ∧ sgo k < sgB.size ∧ sgo k + (sgo (k + 1) - sgo k) = sgo (k + 1) ∧ sgo k ≤ 6 ∧ 1 ≤ sgo (k + 1) - sgo k := by
  have : k = 0 ∨ k = 1 ∨ k = 2 ∨ k = 3 ∨ k = 4 := by omega
  rcases this with rfl | rfl | rfl | rfl | rfl <;> refine ⟨by decide +kernel, by decide, by decide, by decide, by decide⟩
theorem sg_end : ¬ sgo 5 < sgB.size := by decide
end Go.Proofs.YtogipbgfnjbakaaDoor
