/-
  Dec8: what the laws' walks want besides.
-/
import Derived.Test.YtijalgngcbifgaaDoorDec7
namespace Go.Proofs.YtijalgngcbifgaaDoor
open Go.RowKit
section
variable {P : Program} {ops : Array Oper} {Q : Exit → Act → World → Prop} {md : Region.Mode} {S : World → Prop}
theorem drop_at {i : Nat} {oi : Oper} {r : List Oper} (hi : ops.toList.drop i = oi :: r) : ops[i]? = some oi := by
  rw [← Array.getElem?_toList, ← Nat.add_zero i, ← List.getElem?_drop, hi]; rfl
/-- An operation is taken first, and is handed over written out. -/
theorem take_at (i : Nat) {oi : Oper} {r : List Oper} {v : Value} {fuel : Nat} {listed : Array Bool} {a : Act} {w : World} (hi : ops.toList.drop i = oi :: r)
    (hs : Region.noSelect ops = true) (hf : Region.free md ops listed i = true) (hr : (Region.ready md ops listed).contains i = true)
    (hQ : ∀ c a w, Q (.panic c) (a.put oi.dst v) w → Q (.panic c) a w) (hw : Region.wanted oi (yielded ops a.tmps) = true) (hy : ∀ w, S w → (execOp a.eval oi).run P w = .ok (.value v) w) (hS : S w)
    (h : wpAnyH P md ops Q S fuel (listed.setIfInBounds i true) (a.put oi.dst v) w) : wpAnyH P md ops Q S (fuel + 1) listed a w :=
  wpAnyH_take (drop_at hi) hs hf hr hQ (.inl ⟨hw, hy⟩) hS h
/-- One that is not wanted. -/
theorem skip_at (i : Nat) {oi : Oper} {r : List Oper} {fuel : Nat} {listed : Array Bool} {a : Act} {w : World} (hi : ops.toList.drop i = oi :: r)
    (hs : Region.noSelect ops = true) (hf : Region.free md ops listed i = true) (hr : (Region.ready md ops listed).contains i = true)
    (hQ : ∀ c a w, Q (.panic c) (a.put oi.dst undef) w → Q (.panic c) a w) (hw : Region.wanted oi (yielded ops a.tmps) = false) (hS : S w)
    (h : wpAnyH P md ops Q S fuel (listed.setIfInBounds i true) (a.put oi.dst undef) w) : wpAnyH P md ops Q S (fuel + 1) listed a w :=
  wpAnyH_take (drop_at hi) hs hf hr hQ (.inr ⟨hw, rfl⟩) hS h
/-- One alone may come up. -/
theorem step_at (i : Nat) {o : Oper} {r : List Oper} {fuel : Nat} {listed : Array Bool} {a : Act} {w : World} (hr : Region.ready md ops listed = [i]) (ho : ops.toList.drop i = o :: r) (hw : Region.wanted o (yielded ops a.tmps) = true)
    (h : ∀ K' : Act → World → Prop, Shut (∀ a w, S w → (S w → wpAnyH P md ops Q S fuel (listed.setIfInBounds i true) a w) → K' a w) → Oper.wp P o a w K' Q) : wpAnyH P md ops Q S (fuel + 1) listed a w :=
  wpAnyH_ready hr (by simp) (AllReadyH.cons (drop_at ho) (fun K hK => by rw [if_pos hw]; exact h K hK) AllReadyH.nil)
end
theorem norm_eq {a b : Nat} {e f : Int} (h : nq a = nq b ∧ nexp a e = nexp b f) : nstr b = nstr a ∧ nexp b f = nexp a e := ⟨by rw [nstr, nstr, h.1], h.2.symm⟩
theorem nstr_inj {a b : Nat} (h : nstr a = nstr b) : nq a = nq b := by
  have h1 := isD_nstr a
  rw [h] at h1
  have h2 := h1.inj (isD_nstr b)
  have h3 := congrArg dval h2
  rwa [dval_orZero', dval_orZero', dval_decs, dval_decs] at h3
theorem norm_ne {n m : Bool} {a b : Nat} {e f : Int} (h : ¬ (n = m ∧ nq a = nq b ∧ nexp a e = nexp b f)) : ¬ (n = m ∧ nstr a = nstr b ∧ nexp a e = nexp b f) :=
  fun ⟨h1, h2, h3⟩ => h ⟨h1, nstr_inj h2, h3⟩
theorem toList_inj {s t : ByteArray} (h : s.toList = t.toList) : s = t := by
  rw [ByteArray.toList_eq, ByteArray.toList_eq] at h
  cases s; cases t; simp at h; rw [h]
/-- The copies of two decimals, each in a box of its own. -/
def PlMid (w0 : World) (A B X Y : Value × Value × Value) (vx vy : Value) (W : World) : Prop :=
  ∃ gx gy : Nat, vx = .pointer (some ⟨gx, 0, none⟩) ∧ vy = .pointer (some ⟨gy, 0, none⟩) ∧ gx ≠ gy ∧ w0.heap.size + 1 < gx ∧ w0.heap.size + 1 < gy ∧ Kept3 w0 [(w0.heap.size, A), (w0.heap.size + 1, B), (gx, X), (gy, Y)] W
theorem plMid_1 {w0 W : World} {A B : Value × Value × Value} (h : Kept3 w0 [(w0.heap.size, A), (w0.heap.size + 1, B)] W) (x1 y1 z1 x2 y2 z2 : Value) (t : TypeId) :
    PlMid w0 A B (x1, y1, z1) (x2, y2, z2) (.pointer (some ⟨W.heap.size, 0, none⟩)) (.pointer (some ⟨W.heap.size + 1, 0, none⟩)) ((W.alloc (.cells #[x1, y1, z1] t)).alloc (.cells #[x2, y2, z2] t)).drew := by
  have hz := (h.2.2 (w0.heap.size + 1, B) (by simp)).2.2.2.2.2.2
  simp only at hz
  have hk := h.keep (((Below.refl W.heap.size W).alloc (Nat.le_refl _) (.cells #[x1, y1, z1] t)).alloc (by simp) (.cells #[x2, y2, z2] t))
  refine ⟨_, _, rfl, rfl, by omega, hz, by omega, Kept3.drew ⟨hk.1, hk.2.1, ?_⟩⟩
  intro u hu
  simp only [List.mem_cons, List.not_mem_nil, or_false] at hu
  rcases hu with rfl | rfl | rfl | rfl
  · exact hk.2.2 (w0.heap.size, A) (by simp)
  · exact hk.2.2 (w0.heap.size + 1, B) (by simp)
  · exact (Box3.new W x1 y1 z1 t).alloc _
  · have := Box3.new (W.alloc (.cells #[x1, y1, z1] t)) x2 y2 z2 t
    rwa [World.size_alloc] at this
theorem plMid_2 {w0 W : World} {A B : Value × Value × Value} (h : Kept3 w0 [(w0.heap.size, A), (w0.heap.size + 1, B)] W) (x1 y1 z1 x2 y2 z2 : Value) (t : TypeId) :
    PlMid w0 A B (x1, y1, z1) (x2, y2, z2) (.pointer (some ⟨W.heap.size + 1, 0, none⟩)) (.pointer (some ⟨W.heap.size, 0, none⟩)) ((W.alloc (.cells #[x2, y2, z2] t)).alloc (.cells #[x1, y1, z1] t)).drew := by
  obtain ⟨gx, gy, e1, e2, hne, hgx, hgy, hk⟩ := plMid_1 h x2 y2 z2 x1 y1 z1 t
  refine ⟨gy, gx, e2, e1, fun e => hne e.symm, hgy, hgx, hk.1, hk.2.1, ?_⟩
  intro u hu
  refine hk.2.2 u ?_
  simp only [List.mem_cons, List.not_mem_nil, or_false] at hu ⊢
  rcases hu with rfl | rfl | rfl | rfl <;> simp
theorem Box3.other {W : World} {g g' k : Nat} {x y z : Value} (h : Box3 W g x y z) (hg : g ≠ g') (u : Value) : Box3 (W.setCell ⟨g', k, none⟩ u) g x y z := by
  obtain ⟨c0, c1, c2, f0, f1, f2, hz⟩ := h
  refine ⟨?_, ?_, ?_, ?_, ?_, ?_, ?_⟩
  · rw [World.cell?_setCell_far _ _ _ _ (by simp; omega)]; exact c0
  · rw [World.cell?_setCell_far _ _ _ _ (by simp; omega)]; exact c1
  · rw [World.cell?_setCell_far _ _ _ _ (by simp; omega)]; exact c2
  · go_simp
  · go_simp
  · go_simp
  · simpa using hz
theorem Box3.set2 {W : World} {g : Nat} {x y z : Value} (h : Box3 W g x y z) (u : Value) : Box3 (W.setCell ⟨g, 2, none⟩ u) g x y u := by
  obtain ⟨c0, c1, c2, f0, f1, f2, hz⟩ := h
  refine ⟨?_, ?_, ?_, ?_, ?_, ?_, ?_⟩
  · go_simp
  · go_simp
  · go_simp
  · go_simp
  · go_simp
  · go_simp
  · simpa using hz
/-- The copies with other exponents. -/
def PlEnd (w0 : World) (L : List (Nat × Value × Value × Value)) (v v' : Value) (W : World) : Prop := v = v' ∧ Kept3 w0 L W
theorem plEnd_of {w0 W : World} {A B : Value × Value × Value} {gx gy : Nat} {x1 y1 z1 x2 y2 z2 : Value} (hp : 0 < w0.heap.size) (hne : gx ≠ gy) (hgx : w0.heap.size + 1 < gx) (hgy : w0.heap.size + 1 < gy)
    (h : Kept3 w0 [(w0.heap.size, A), (w0.heap.size + 1, B), (gx, x1, y1, z1), (gy, x2, y2, z2)] W) (Z1 Z2 v : Value) :
    PlEnd w0 [(w0.heap.size, A), (w0.heap.size + 1, B), (gx, x1, y1, Z1), (gy, x2, y2, Z2)] v v ((W.setCell ⟨gx, 2, none⟩ Z1).setCell ⟨gy, 2, none⟩ Z2) := by
  have b1 : Below w0.heap.size w0 _ := (h.2.1.setCell (p := ⟨gx, 2, none⟩) (by simp; omega) Z1).setCell (p := ⟨gy, 2, none⟩) (by simp; omega) Z2
  have b2 : Below w0.heap.size W _ := ((Below.refl w0.heap.size W).setCell (p := ⟨gx, 2, none⟩) (by simp; omega) Z1).setCell (p := ⟨gy, 2, none⟩) (by simp; omega) Z2
  refine ⟨rfl, h.1.below' b2 hp, b1, ?_⟩
  intro u hu
  simp only [List.mem_cons, List.not_mem_nil, or_false] at hu
  rcases hu with rfl | rfl | rfl | rfl
  · exact ((h.2.2 (w0.heap.size, A) (by simp)).other (by simp; omega) _).other (by simp; omega) _
  · exact ((h.2.2 (w0.heap.size + 1, B) (by simp)).other (by simp; omega) _).other (by simp; omega) _
  · exact ((h.2.2 (gx, x1, y1, z1) (by simp)).set2 _).other (by simp; omega) _
  · exact ((h.2.2 (gy, x2, y2, z2) (by simp)).other (by simp; omega) _).set2 _
theorem PlEnd.drew {w0 W : World} {L : List (Nat × Value × Value × Value)} {v v' : Value} (h : PlEnd w0 L v v' W) : PlEnd w0 L v v' W.drew := ⟨h.1, h.2.drew⟩
theorem DA.shift {s : ByteArray} {e k : Int} {N : Nat} (h : DA 1000 s e N) (h1 : -128 ≤ k) (h2 : k ≤ 127) : DA 2000 s (e + k) N :=
  ⟨h.isD, h.pos, h.len, by have := h.lo; omega, by have := h.hi; omega⟩
theorem i8_of_wf {n : Int} (h : (Lit.int .i8 n).wf = true) : -128 ≤ n ∧ n ≤ 127 := by
  have e1 : IntKind.i8.min = -128 := rfl
  have e2 : IntKind.i8.max = 127 := rfl
  simp only [Lit.wf, Bool.and_eq_true, decide_eq_true_eq] at h
  omega
theorem i16_of_wf {n : Int} (h : (Lit.int .i16 n).wf = true) : -32768 ≤ n ∧ n ≤ 32767 := by
  have e1 : IntKind.i16.min = -32768 := rfl
  have e2 : IntKind.i16.max = 32767 := rfl
  simp only [Lit.wf, Bool.and_eq_true, decide_eq_true_eq] at h
  omega
theorem number_n {B : Nat} {s : ByteArray} {e : Int} {N : Nat} (h : DA B s e N) (w : World) :
    Calls Tryd.prog 19 #[.string s] w fun r w' => ∃ A m c, r = .returned (.slice A m c) ∧ OwnS w' w.heap.size A m c (digs 1000000000 N) ∧ Below w.heap.size w w' := by
  obtain ⟨ds, hd, hv⟩ := h.isD
  have := h.len
  have hc := number_c s ds w hd (by omega)
  rw [hv] at hc
  exact hc
theorem same_n (A A' : Option Addr) (n c n' c' : Nat) (xs : List Nat) (w : World) (h : Limbs w A n xs) (h' : Limbs w A' n' xs) :
    Calls Tryd.prog 17 #[.slice A n c, .slice A' n' c'] w fun e w' => e = .returned (.bool true) ∧ Below w.heap.size w w' := by
  have hc := same_c A A' n c n' c' xs xs w h h'
  rwa [decide_eq_true rfl] at hc
theorem rangedB_norm (N : Nat) (e : Int) : rangedB (nq N) (nexp N e) = rangedB N e := by
  unfold rangedB
  rw [nexp_nq]
  by_cases h : N = 0
  · subst h; rw [nq_zero]; rfl
  · have h1 := top_norm h e
    have h2 := top_norm (nq_pos h) (nexp N e)
    rw [nexp_nq, nq_nq] at h2
    rw [← h1, h2]
theorem decRanged_v (B : Nat) (n : Bool) (s : ByteArray) (e : Int) (N : Nat) (v : Bool) (w : World) (h : DA B s e N) (hv : rangedB N e = v) (hB : B ≤ 1000000) (hP : Pw w) :
    Calls Tryd.prog 25 #[.agg #[.bool n, .string s, .int .i64 e]] w fun r w' => r = .returned (.bool v) ∧ Below w.heap.size w w' := by subst hv; exact decRanged_c B n s e N w h hB hP
theorem decNorm_v (B : Nat) (n : Bool) (s : ByteArray) (e : Int) (N : Nat) (S : ByteArray) (E : Int) (w : World) (h : DA B s e N) (hv : nstr N = S ∧ nexp N e = E) (hB : B ≤ 1000000) (hP : Pw w) :
    Calls Tryd.prog 13 #[.agg #[.bool n, .string s, .int .i64 e]] w fun r w' => r = .returned (.agg #[.bool n, .string S, .int .i64 E]) ∧ Below w.heap.size w w' := by
  obtain ⟨rfl, rfl⟩ := hv; exact decNorm_c B n s e N w h hB hP
theorem norm_norm (N : Nat) (e : Int) : nstr (nq N) = nstr N ∧ nexp (nq N) (nexp N e) = nexp N e := ⟨by rw [nstr, nq_nq, nstr], nexp_nq N e⟩
theorem decCmp_v (B : Nat) (n m : Bool) (s t : ByteArray) (e f : Int) (a b : Nat) (v : Int) (w : World) (h : DA B s e a) (h' : DA B t f b) (hv : cmpV n a e m b f = v) (hB : B ≤ 1000000) (hP : Pw w) :
    Calls Tryd.prog 23 #[.agg #[.bool n, .string s, .int .i64 e], .agg #[.bool m, .string t, .int .i64 f]] w fun r w' => r = .returned (.int .i64 v) ∧ Below w.heap.size w w' := by
  subst hv; exact decCmp_c B n m s t e f a b w h h' hB hP
theorem ref5Cmp_v (B : Nat) (n m : Bool) (s t : ByteArray) (e f : Int) (a b : Nat) (v : Int) (w : World) (h : DA B s e a) (h' : DA B t f b) (hv : cmpV n a e m b f = v) (hB : B ≤ 1000000) (hP : Pw w) :
    Calls Tryd.prog 24 #[.agg #[.bool n, .string s, .int .i64 e], .agg #[.bool m, .string t, .int .i64 f]] w fun r w' => r = .returned (.int .i64 v) ∧ Below w.heap.size w w' := by
  subst hv; exact ref5Cmp_c B n m s t e f a b w h h' hB hP
theorem decDigit_v (B : Nat) (n : Bool) (s : ByteArray) (e : Int) (N : Nat) (p v : Int) (w : World) (h : DA B s e N) (hv : (digAt N e p : Int) = v) (hB : B ≤ 1000000) (hP : Pw w) :
    Calls Tryd.prog 22 #[.agg #[.bool n, .string s, .int .i64 e], .int .i64 p] w fun r w' => r = .returned (.int .i64 v) ∧ Below w.heap.size w w' := by
  subst hv; exact decDigit_c B n s e N p w h hB hP
theorem decTop_v (B : Nat) (n : Bool) (s : ByteArray) (e : Int) (N : Nat) (v : Int) (w : World) (h : DA B s e N) (hv : dtop N e = v) (hB : B ≤ 1000000) (hP : Pw w) :
    Calls Tryd.prog 20 #[.agg #[.bool n, .string s, .int .i64 e]] w fun r w' => r = .returned (.int .i64 v) ∧ Below w.heap.size w w' := by
  subst hv; exact decTop_c B n s e N w h hB hP
theorem decZero_v (B : Nat) (n : Bool) (s : ByteArray) (e : Int) (N : Nat) (v : Bool) (w : World) (h : DA B s e N) (hv : decide (N = 0) = v) (hP : Pw w) :
    Calls Tryd.prog 15 #[.agg #[.bool n, .string s, .int .i64 e]] w fun r w' => r = .returned (.bool v) ∧ Below w.heap.size w w' := by
  subst hv; exact decZero_c B n s e N w h hP
theorem ref5Zero_v (B : Nat) (n : Bool) (s : ByteArray) (e : Int) (N : Nat) (v : Bool) (w : World) (h : DA B s e N) (hv : decide (N = 0) = v) (hP : Pw w) :
    Calls Tryd.prog 16 #[.agg #[.bool n, .string s, .int .i64 e]] w fun r w' => r = .returned (.bool v) ∧ Below w.heap.size w w' := by
  subst hv; exact ref5Zero_c B n s e N w h hP
theorem ref5Top_v (B : Nat) (n : Bool) (s : ByteArray) (e : Int) (N : Nat) (v : Int) (w : World) (h : DA B s e N) (hv : dtop N e = v) (hB : B ≤ 1000000) (hP : Pw w) :
    Calls Tryd.prog 21 #[.agg #[.bool n, .string s, .int .i64 e]] w fun r w' => r = .returned (.int .i64 v) ∧ Below w.heap.size w w' := by
  subst hv; exact ref5Top_c B n s e N w h hB hP
theorem want_in {B : Nat} {s : ByteArray} {e p : Int} {N : Nat} (h : DA B s e N) (h1 : e ≤ p) (h2 : p < e + (s.size : Int)) :
    ∃ k : Nat, (s.size : Int) - 1 - (p - e) = (k : Int) ∧ ∃ hk : k < s.size, s[k].toNat = 48 + digAt N e p := by
  obtain ⟨ds, hd, rfl⟩ := h.isD
  have hs := hd.size
  refine ⟨s.size - 1 - (p - e).toNat, by omega, by omega, ?_⟩
  rw [hd.at_, hs, rev_digit ds hd.2 _ (by omega), digAt, if_neg (by omega)]
theorem want_out {B : Nat} {s : ByteArray} {e p : Int} {N : Nat} (h : DA B s e N) (h1 : ¬ (e ≤ p ∧ p < e + (s.size : Int))) : digAt N e p = 0 := by
  obtain ⟨ds, hd, rfl⟩ := h.isD
  have hs := hd.size
  unfold digAt
  by_cases h2 : p < e
  · rw [if_pos h2]
  · rw [if_neg h2]
    have h3 := dval_lt ds hd.2
    have h4 : 10 ^ ds.length ≤ 10 ^ (p - e).toNat := Nat.pow_le_pow_right (by omega) (by omega)
    rw [Nat.div_eq_of_lt (by omega)]
theorem kept_three (w : World) (x1 y1 z1 x2 y2 z2 x3 y3 z3 : Value) (t : TypeId) (hP : Pw w) :
    Kept3 w [(w.heap.size, x1, y1, z1), (w.heap.size + 1, x2, y2, z2), (w.heap.size + 2, x3, y3, z3)] (((w.alloc (.cells #[x1, y1, z1] t)).alloc (.cells #[x2, y2, z2] t)).alloc (.cells #[x3, y3, z3] t)) := by
  have h2 := kept_two w x1 y1 z1 x2 y2 z2 t hP
  have hb : Below ((w.alloc (.cells #[x1, y1, z1] t)).alloc (.cells #[x2, y2, z2] t)).heap.size ((w.alloc (.cells #[x1, y1, z1] t)).alloc (.cells #[x2, y2, z2] t)) _ := (Below.refl _ _).alloc (Nat.le_refl _) (.cells #[x3, y3, z3] t)
  have hk := h2.keep hb
  refine ⟨hk.1, hk.2.1, ?_⟩
  intro u hu
  simp only [List.mem_cons, List.not_mem_nil, or_false] at hu
  rcases hu with rfl | rfl | rfl
  · exact hk.2.2 _ (by simp)
  · exact hk.2.2 (w.heap.size + 1, x2, y2, z2) (by simp)
  · have := Box3.new ((w.alloc (.cells #[x1, y1, z1] t)).alloc (.cells #[x2, y2, z2] t)) x3 y3 z3 t
    simp only [World.size_alloc] at this
    exact this
end Go.Proofs.YtijalgngcbifgaaDoor
