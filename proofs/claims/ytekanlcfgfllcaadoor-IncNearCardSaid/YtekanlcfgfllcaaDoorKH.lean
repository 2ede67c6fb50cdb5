/-
  KH: ArM, ArB, Ar1, Ar2, Ar3, Rf6, Gd6, An6.
-/
import Derived.Lib.MinMax
import Derived.Test.YtekanlcfgfllcaaDoorKG
/- ArM -/
/-
  ArM: plain facts on sums and products of decimals: a decimal as it should be, from a whole number of steps; rounding by dividing.
-/
set_option maxRecDepth 100000
namespace Go.Proofs.YtekanlcfgfllcaaDoor
open Go.RowKit
theorem nq_mul {N : Nat} (h : N ≠ 0) (k : Nat) : nq (N * 10 ^ k) = nq N ∧ tz10 (N * 10 ^ k) = tz10 N + k := by
  have h0 : N * 10 ^ k ≠ 0 := by have := mul_pow_pos (k := k) h; omega
  have h1 := nq_spec N
  have h2 := nq_spec (N * 10 ^ k)
  refine norm_unique (h2.2 h0) (h1.2 h) ?_
  rw [h2.1, Nat.pow_add, ← Nat.mul_assoc, h1.1]
theorem nstr_mul (N k : Nat) : nstr (N * 10 ^ k) = nstr N := by
  by_cases h : N = 0
  · subst h; rw [Nat.zero_mul]
  · rw [nstr, (nq_mul h k).1, nstr]
theorem nexp_mul (N k : Nat) (e : Int) : nexp (N * 10 ^ k) e = nexp N (e + k) := by
  by_cases h : N = 0
  · subst h; rw [Nat.zero_mul]; simp [nexp]
  · have h0 : N * 10 ^ k ≠ 0 := by have := mul_pow_pos (k := k) h; omega
    rw [nexp, nexp, if_neg h0, if_neg h, (nq_mul h k).2]
    omega
/-- As it should be: so many steps of ten to the power e. -/
def zneg (Z : Int) : Bool := decide (Z < 0)
def zstr (Z : Int) : ByteArray := nstr Z.natAbs
def zexp (Z : Int) (e : Int) : Int := nexp Z.natAbs e
theorem sv_natAbs (n : Bool) (N : Nat) : (sv n N).natAbs = N := by cases n <;> simp [sv]
theorem sv_add (n : Bool) (X Y : Nat) : sv n X + sv n Y = sv n (X + Y) := by cases n <;> simp [sv] <;> omega
theorem zneg_sv (n : Bool) (N : Nat) (h : N ≠ 0) : zneg (sv n N) = n := by
  cases n
  · simp [zneg, sv]
  · simp [zneg, sv]; omega
theorem zneg_zero : zneg 0 = false := rfl
theorem zstr_sv (n : Bool) (N : Nat) : zstr (sv n N) = nstr N := by rw [zstr, sv_natAbs]
theorem zexp_sv (n : Bool) (N : Nat) (e : Int) : zexp (sv n N) e = nexp N e := by rw [zexp, sv_natAbs]
theorem mul_pow_cast (Z : Int) (k : Nat) : (Z * (10 ^ k : Nat)).natAbs = Z.natAbs * 10 ^ k := by rw [Int.natAbs_mul]; simp
theorem zneg_mul (Z : Int) (k : Nat) : zneg (Z * (10 ^ k : Nat)) = zneg Z := by
  have hp := pow_pos10 k
  unfold zneg
  rw [decide_eq_decide]
  constructor
  · intro h
    rcases Int.lt_or_le Z 0 with h1 | h1
    · exact h1
    · exfalso
      have := Int.mul_nonneg h1 (show (0 : Int) ≤ ((10 ^ k : Nat) : Int) by omega)
      omega
  · intro h
    exact Int.mul_neg_of_neg_of_pos h (by omega)
/-- Counted in finer steps it is the same decimal. -/
theorem z_scale (Z : Int) (k : Nat) (e : Int) : zneg (Z * (10 ^ k : Nat)) = zneg Z ∧ zstr (Z * (10 ^ k : Nat)) = zstr Z ∧ zexp (Z * (10 ^ k : Nat)) e = zexp Z (e + k) := by
  refine ⟨zneg_mul Z k, ?_, ?_⟩
  · rw [zstr, zstr, mul_pow_cast, nstr_mul]
  · rw [zexp, zexp, mul_pow_cast, nexp_mul]
/-- The sign of a decimal that is 0 is none. -/
def pneg (n : Bool) (N : Nat) : Bool := if N = 0 then false else n
theorem pneg_sv (n : Bool) (N : Nat) : pneg n N = zneg (sv n N) := by
  unfold pneg
  split
  · rename_i h; subst h; rw [sv_zero]; rfl
  · rename_i h; rw [zneg_sv n N h]
theorem sv_sub_lt {n m : Bool} {X Y : Nat} (hnm : n ≠ m) (h : X < Y) : sv n X + sv m Y = sv m (Y - X) := by cases n <;> cases m <;> simp [sv] at hnm ⊢ <;> omega
theorem sv_sub_ge {n m : Bool} {X Y : Nat} (hnm : n ≠ m) (h : Y ≤ X) : sv n X + sv m Y = sv n (X - Y) := by cases n <;> cases m <;> simp [sv] at hnm ⊢ <;> omega
theorem sv_mul2 (n m : Bool) (X Y : Nat) : sv n X * sv m Y = sv (n != m) (X * Y) := by cases n <;> cases m <;> simp [sv, Int.neg_mul, Int.mul_neg]
/-- Which way's answer is the one that is farther from 0. -/
def upB (m : Int) (neg odd : Bool) (half : Int) : Bool :=
  if m = 0 then !neg else if m = 1 then neg else if m = 2 then true else if m = 4 then decide (0 < half) || (decide (half = 0) && odd) else if m = 5 then decide (0 ≤ half) else if m = 6 then decide (0 < half) else false
/-- What a number of small steps is rounded to, W of them being one great step. -/
def upN (m : Int) (neg : Bool) (X W : Nat) : Bool := upB m neg (decide (X / W % 2 = 1)) (cmpZ ((2 * (X % W) : Nat) : Int) (W : Int))
def roundN (m : Int) (neg : Bool) (X W : Nat) : Nat := (X / W + if upN m neg X W then 1 else 0) * W
/-- A value counted in steps of ten to the power m. -/
def atE (n : Bool) (N : Nat) (e m : Int) : Int := sv n (N * 10 ^ (e - m).toNat)
theorem atE_zero (n : Bool) (e m : Int) : atE n 0 e m = 0 := by rw [atE, Nat.zero_mul, sv_zero]
theorem cmpV_atE (na : Bool) (a : Nat) (ea : Int) (nb : Bool) (b : Nat) (eb : Int) (m : Int) (h1 : m ≤ ea) (h2 : m ≤ eb) : cmpV na a ea nb b eb = cmpZ (atE na a ea m) (atE nb b eb m) := cmpV_at na a ea nb b eb m h1 h2
theorem atE_finer (n : Bool) (N : Nat) (e m : Int) (k : Nat) (h : m ≤ e) : atE n N e (m - k) = atE n N e m * (10 ^ k : Nat) := by
  rw [atE, atE, show (e - (m - k)).toNat = (e - m).toNat + k by omega, Nat.pow_add, ← Nat.mul_assoc, sv_mul]
theorem atE_norm (n : Bool) (N : Nat) (e m : Int) (h : m ≤ e) : atE n (nq N) (nexp N e) m = atE n N e m := by
  by_cases h0 : N = 0
  · subst h0; rw [nq_zero, atE_zero, atE_zero]
  · rw [atE, atE, nexp, if_neg h0]
    congr 1
    have h1 := (nq_spec N).1
    conv => rhs; rw [show N * 10 ^ (e - m).toNat = nq N * 10 ^ tz10 N * 10 ^ (e - m).toNat by rw [h1]]
    rw [show (e + tz10 N - m).toNat = tz10 N + (e - m).toNat by omega, Nat.pow_add, Nat.mul_assoc]
theorem sv_zneg (Z : Int) : sv (zneg Z) Z.natAbs = Z := by
  unfold zneg sv
  rcases Int.lt_or_le Z 0 with h | h
  · rw [decide_eq_true h, if_pos rfl]; omega
  · rw [decide_eq_false (by omega), if_neg (by simp)]; omega
theorem atE_z (Z : Int) (e m : Int) (h : m ≤ e) : atE (zneg Z) (nq Z.natAbs) (zexp Z e) m = Z * (10 ^ (e - m).toNat : Nat) := by
  rw [zexp, atE_norm _ _ _ _ h, atE, sv_mul, sv_zneg]
/-- The decimal does not hang on the steps in which it was counted. -/
theorem z_same {Z Z' : Int} {m m' : Int} (k : Nat) (hm : m = m' + k) (h : Z' = Z * (10 ^ k : Nat)) : zneg Z' = zneg Z ∧ zstr Z' = zstr Z ∧ zexp Z' m' = zexp Z m := by
  have := z_scale Z k m'
  rw [h, hm]; exact this
theorem z_neg (Z : Int) : zstr (-Z) = zstr Z ∧ ∀ e, zexp (-Z) e = zexp Z e := ⟨by rw [zstr, zstr, Int.natAbs_neg], fun e => by rw [zexp, zexp, Int.natAbs_neg]⟩
theorem zneg_neg {Z : Int} (h : Z ≠ 0) : zneg (-Z) = !zneg Z := by
  unfold zneg
  rcases Int.lt_or_gt_of_ne h with h1 | h1
  · rw [decide_eq_true h1, decide_eq_false (by omega)]; rfl
  · rw [decide_eq_false (show ¬ Z < 0 by omega), decide_eq_true (by omega)]; rfl
theorem zstr_is0 (Z : Int) : ((zstr Z).toList == [48]) = decide (Z = 0) := by
  rw [zstr, nstr_is0, decide_eq_decide]; omega
theorem DA.of_num {B : Nat} {N : Nat} {e : Int} (h : (decs N).length ≤ 4990) (h1 : -(B : Int) ≤ e) (h2 : e ≤ (B : Int)) : DA (B + 5000) (nstr N) (nexp N e) (nq N) := by
  have h3 := tz_len N
  have h4 := nstr_size N
  refine ⟨⟨_, isD_nstr N, by rw [dval_orZero', dval_decs]⟩, nstr_pos N, by omega, ?_, ?_⟩
  · unfold nexp; split <;> omega
  · unfold nexp; split <;> omega
theorem DA.of_z {B : Nat} {Z : Int} {e : Int} (h : (decs Z.natAbs).length ≤ 4990) (h1 : -(B : Int) ≤ e) (h2 : e ≤ (B : Int)) : DA (B + 5000) (zstr Z) (zexp Z e) (nq Z.natAbs) := DA.of_num h h1 h2
theorem natAbs_add_lt {A C : Int} {k : Nat} (h1 : A.natAbs < 10 ^ k) (h2 : C.natAbs < 10 ^ k) : (A + C).natAbs < 10 ^ (k + 1) := by
  rw [Nat.pow_succ]; omega
theorem atE_lt {n : Bool} {N : Nat} {e m : Int} {i k : Nat} (h : N < 10 ^ i) (hk : (e - m).toNat ≤ k) : (atE n N e m).natAbs < 10 ^ (i + k) := by
  rw [atE, sv_natAbs, Nat.pow_add]
  exact Nat.lt_of_lt_of_le (Nat.mul_lt_mul_of_pos_right h (pow_pos10 _)) (Nat.mul_le_mul_left _ (Nat.pow_le_pow_right (by omega) hk))
end Go.Proofs.YtekanlcfgfllcaaDoor
/- ArB -/
/-
  ArB: a result's box beside the boxes of the parameters; decimals by their value (DV); the calls of numbers by their value.
-/
namespace Go.Proofs.YtekanlcfgfllcaaDoor
open Go.RowKit
/-- What a cell of a block reads now. -/
def rd (W : World) (g k : Nat) : Value := (W.cell? ⟨g, k, none⟩).getD (.bool false)
def cellR (g : Nat) (w : World) : Prop :=
  w.cell? ⟨g, 0, none⟩ = some (rd w g 0) ∧ w.cell? ⟨g, 1, none⟩ = some (rd w g 1) ∧ w.cell? ⟨g, 2, none⟩ = some (rd w g 2) ∧ w.frozen? ⟨g, 0, none⟩ = false ∧ w.frozen? ⟨g, 1, none⟩ = false ∧ w.frozen? ⟨g, 2, none⟩ = false
/-- Boxes that read so, and one that may be written. -/
def Kept4 (w0 : World) (L : List (Nat × Value × Value × Value)) (g : Nat) (w : World) : Prop :=
  Kept3 w0 L w ∧ (∃ x y z, Box3 w g x y z) ∧ w0.heap.size ≤ g ∧ 0 < g ∧ ∀ t ∈ L, t.1 ≠ g
def Sd4 (w0 : World) (L : List (Nat × Value × Value × Value)) (g : Nat) (w : World) : Prop := (cellsOf3 L w ∧ cellR g w) ∧ Hid (Kept4 w0 L g w)
theorem cellR_of {w : World} {g : Nat} {x y z : Value} (h : Box3 w g x y z) : cellR g w := by
  obtain ⟨c0, c1, c2, f0, f1, f2, -⟩ := h
  refine ⟨?_, ?_, ?_, f0, f1, f2⟩
  · rw [rd, c0]; rfl
  · rw [rd, c1]; rfl
  · rw [rd, c2]; rfl
theorem Sd4.of {w0 w : World} {L : List (Nat × Value × Value × Value)} {g : Nat} (h : Kept4 w0 L g w) : Sd4 w0 L g w := by
  obtain ⟨x, y, z, hb⟩ := h.2.1
  exact ⟨⟨(Sd.of h.1).1, cellR_of hb⟩, Lib.hid h⟩
theorem Kept4.keep {w0 w w' : World} {L : List (Nat × Value × Value × Value)} {g : Nat} (h : Kept4 w0 L g w) (hb : Below w.heap.size w w') : Kept4 w0 L g w' := by
  obtain ⟨x, y, z, hx⟩ := h.2.1
  exact ⟨h.1.keep hb, ⟨x, y, z, hx.keep hb⟩, h.2.2⟩
theorem Sd4.keep {w0 w w' : World} {L : List (Nat × Value × Value × Value)} {g : Nat} (h : Sd4 w0 L g w) (hb : Below w.heap.size w w') : Sd4 w0 L g w' := .of (h.2.out.keep hb)
theorem Sd4.pw {w0 w : World} {L : List (Nat × Value × Value × Value)} {g : Nat} (h : Sd4 w0 L g w) : Pw w := h.2.out.1.1
theorem Sd4.bel {w0 w : World} {L : List (Nat × Value × Value × Value)} {g : Nat} (h : Sd4 w0 L g w) : Below w0.heap.size w0 w := h.2.out.1.2.1
theorem Kept4.drew {w0 w : World} {L : List (Nat × Value × Value × Value)} {g : Nat} (h : Kept4 w0 L g w) : Kept4 w0 L g w.drew := ⟨h.1.drew, h.2.1, h.2.2⟩
theorem box3_store {W : World} {g : Nat} {x y z : Value} (h : Box3 W g x y z) (x' y' z' : Value) : Box3 (((W.setCell ⟨g, 0, none⟩ x').setCell ⟨g, 1, none⟩ y').setCell ⟨g, 2, none⟩ z') g x' y' z' := by
  obtain ⟨c0, c1, c2, f0, f1, f2, hz⟩ := h
  refine ⟨?_, ?_, ?_, ?_, ?_, ?_, ?_⟩
  · go_simp
  · go_simp
  · go_simp
  · go_simp
  · go_simp
  · go_simp
  · simpa using hz
theorem Kept4.store {w0 w : World} {L : List (Nat × Value × Value × Value)} {g : Nat} (h : Kept4 w0 L g w) (x y z : Value) :
    Kept4 w0 L g (((w.setCell ⟨g, 0, none⟩ x).setCell ⟨g, 1, none⟩ y).setCell ⟨g, 2, none⟩ z) := by
  obtain ⟨⟨hP, hb, hL⟩, ⟨x0, y0, z0, hx⟩, hg, hp, hn⟩ := h
  have hb' := ((hb.setCell (p := ⟨g, 0, none⟩) hg x).setCell (p := ⟨g, 1, none⟩) hg y).setCell (p := ⟨g, 2, none⟩) hg z
  have hb2 : Below g w _ := (((Below.refl g w).setCell (p := ⟨g, 0, none⟩) (Nat.le_refl _) x).setCell (p := ⟨g, 1, none⟩) (Nat.le_refl _) y).setCell (p := ⟨g, 2, none⟩) (Nat.le_refl _) z
  exact ⟨⟨hP.below' hb2 hp, hb', fun t ht => (((hL t ht).other (hn t ht) x).other (hn t ht) y).other (hn t ht) z⟩, ⟨x, y, z, box3_store hx x y z⟩, hg, hp, hn⟩
theorem Sd4.store {w0 w : World} {L : List (Nat × Value × Value × Value)} {g : Nat} (h : Sd4 w0 L g w) (x y z : Value) :
    Sd4 w0 L g (((w.setCell ⟨g, 0, none⟩ x).setCell ⟨g, 1, none⟩ y).setCell ⟨g, 2, none⟩ z) := .of (h.2.out.store x y z)
theorem cell_written {W : World} {p : Addr} {x y : Value} (h : (W.setCell p x).cell? p = some y) : (W.setCell p x).cell? p = some x := by
  unfold World.setCell World.cell? at *
  simp only [Array.getElem?_modify] at h ⊢
  rcases hh : W.heap[p.block]? with _ | o
  · rw [hh] at h; simp at h
  · rw [hh] at h
    rcases o with ⟨c, e, fr⟩ | _ <;> simp only [Option.map_some, if_true] at h ⊢
    · by_cases hs : p.spot.isSome
      · rw [if_pos hs] at h; cases h
      · rw [if_neg hs] at h ⊢
        rw [if_neg hs] at h ⊢
        rw [Array.getElem?_setIfInBounds] at h ⊢
        simp only [if_true] at h ⊢
        split
        · rfl
        · rename_i hx; rw [if_neg hx] at h; cases h
    all_goals (first | exact h | (exact absurd h (by simp)))
theorem written3 {W : World} {g : Nat} {x y z : Value} (h : cellR g (((W.setCell ⟨g, 0, none⟩ x).setCell ⟨g, 1, none⟩ y).setCell ⟨g, 2, none⟩ z)) :
    (((W.setCell ⟨g, 0, none⟩ x).setCell ⟨g, 1, none⟩ y).setCell ⟨g, 2, none⟩ z).cell? ⟨g, 0, none⟩ = some x ∧
    (((W.setCell ⟨g, 0, none⟩ x).setCell ⟨g, 1, none⟩ y).setCell ⟨g, 2, none⟩ z).cell? ⟨g, 1, none⟩ = some y ∧
    (((W.setCell ⟨g, 0, none⟩ x).setCell ⟨g, 1, none⟩ y).setCell ⟨g, 2, none⟩ z).cell? ⟨g, 2, none⟩ = some z := by
  obtain ⟨c0, c1, c2, -, -, -⟩ := h
  refine ⟨?_, ?_, cell_written c2⟩
  · rw [World.cell?_setCell_other (w := _) (a := ⟨g, 2, none⟩) (b := ⟨g, 0, none⟩) (v := _) (by simp), World.cell?_setCell_other (w := _) (a := ⟨g, 1, none⟩) (b := ⟨g, 0, none⟩) (v := _) (by simp)] at c0 ⊢
    exact cell_written c0
  · rw [World.cell?_setCell_other (w := _) (a := ⟨g, 2, none⟩) (b := ⟨g, 1, none⟩) (v := _) (by simp)] at c1 ⊢
    exact cell_written c1
theorem kept4_one (w : World) (x1 y1 z1 x y z : Value) (t t' : TypeId) (hP : Pw w) :
    Kept4 w [(w.heap.size, x1, y1, z1)] (w.heap.size + 1) ((w.alloc (.cells #[x1, y1, z1] t)).alloc (.cells #[x, y, z] t')) := by
  have h := kept_one w x1 y1 z1 t hP
  have hb := Box3.new (w.alloc (.cells #[x1, y1, z1] t)) x y z t'
  rw [World.size_alloc] at hb
  have hp := hP.blk
  exact ⟨h.keep ((Below.refl _ _).alloc (Nat.le_refl _) _), ⟨_, _, _, hb⟩, by omega, by omega, by intro u hu; simp at hu; subst hu; simp⟩
theorem kept4_two (w : World) (x1 y1 z1 x2 y2 z2 x y z : Value) (t t' : TypeId) (hP : Pw w) :
    Kept4 w [(w.heap.size, x1, y1, z1), (w.heap.size + 1, x2, y2, z2)] (w.heap.size + 1 + 1) (((w.alloc (.cells #[x1, y1, z1] t)).alloc (.cells #[x2, y2, z2] t)).alloc (.cells #[x, y, z] t')) := by
  have h := kept_two w x1 y1 z1 x2 y2 z2 t hP
  have hb := Box3.new ((w.alloc (.cells #[x1, y1, z1] t)).alloc (.cells #[x2, y2, z2] t)) x y z t'
  rw [World.size_alloc, World.size_alloc] at hb
  have hp := hP.blk
  exact ⟨h.keep ((Below.refl _ _).alloc (Nat.le_refl _) _), ⟨_, _, _, hb⟩, by omega, by omega, by intro u hu; simp at hu; rcases hu with rfl | rfl <;> (dsimp only; omega)⟩
theorem Kept3.keepB {B : Nat} {w0 w w' : World} {L : List (Nat × Value × Value × Value)} (h : Kept3 w0 L w) (hb : Below B w w') (hL : ∀ t ∈ L, t.1 < B) (hp : 0 < B) (hB : w0.heap.size ≤ B) : Kept3 w0 L w' :=
  ⟨h.1.below' hb hp, h.2.1.trans (hb.mono hB), fun t ht => (h.2.2 t ht).below hb (hL t ht)⟩
theorem Sd.keepB {B : Nat} {w0 w w' : World} {L : List (Nat × Value × Value × Value)} (h : Sd w0 L w) (hb : Below B w w') (hL : ∀ t ∈ L, t.1 < B) (hp : 0 < B) (hB : w0.heap.size ≤ B) : Sd w0 L w' := .of (h.2.out.keepB hb hL hp hB)
theorem dec_field0 (x y z : Value) (w : World) : (Instr.field 23 (.agg #[x, y, z]) 0).run Tryd.prog w = .ok x w := by kernel_rfl
theorem dec_field1 (x y z : Value) (w : World) : (Instr.field 23 (.agg #[x, y, z]) 1).run Tryd.prog w = .ok y w := by kernel_rfl
theorem dec_field2 (x y z : Value) (w : World) : (Instr.field 23 (.agg #[x, y, z]) 2).run Tryd.prog w = .ok z w := by kernel_rfl
/-- A decimal that may be handed in, whose value is V steps of ten to the power k. -/
structure DV (k : Int) (n : Bool) (s : ByteArray) (e : Int) (V : Int) : Prop where
  ex : ∃ N, DA 30000 s e N ∧ atE n N e k = V
  le : k ≤ e
  lo : -30000 ≤ k
  len : (decs V.natAbs).length ≤ 4900
theorem DV.z {k Z : Int} (h1 : -20000 ≤ k) (h2 : k ≤ 0) (h3 : (decs Z.natAbs).length ≤ 4900) : DV k (zneg Z) (zstr Z) (zexp Z k) Z := by
  refine ⟨⟨nq Z.natAbs, (DA.of_z (B := 20000) (by omega) (by omega) (by omega)).mono (by omega), ?_⟩, ?_, by omega, h3⟩
  · rw [atE_z _ _ _ (Int.le_refl _), Int.sub_self]; simp
  · unfold zexp nexp; split <;> omega
theorem DV.of_da {B : Nat} {k : Int} {n : Bool} {s : ByteArray} {e : Int} {N : Nat} (h : DA B s e N) (hB : B ≤ 30000) (hk : k ≤ e) (hl : -30000 ≤ k) (h3 : (decs (atE n N e k).natAbs).length ≤ 4900) : DV k n s e (atE n N e k) :=
  ⟨⟨N, h.mono hB, rfl⟩, hk, hl, h3⟩
theorem atE_turn (n : Bool) (N : Nat) (e m : Int) : atE (!n) N e m = -atE n N e m := by cases n <;> simp [atE, sv]
theorem DV.turn {k : Int} {n : Bool} {s : ByteArray} {e : Int} {V : Int} (h : DV k n s e V) : DV k (!n) s e (-V) := by
  obtain ⟨⟨N, hd, hv⟩, h1, h2, h3⟩ := h
  exact ⟨⟨N, hd, by rw [atE_turn, hv]⟩, h1, h2, by rwa [Int.natAbs_neg]⟩
/-- Digits of a coefficient, with a 0 where there are none. -/
theorem da_orz {B : Nat} {N : Nat} {e : Int} (h : (decs N).length ≤ 4990) (h1 : -(B : Int) ≤ e) (h2 : e ≤ (B : Int)) : DA B (strD (orZero (decs N))) e N := by
  have hz := strD_size (orZero (decs N))
  have hl : (orZero (decs N)).length ≤ 4991 ∧ 0 < (orZero (decs N)).length := by
    unfold orZero
    split
    · exact ⟨by simp, by simp⟩
    · rename_i hh; exact ⟨by omega, List.length_pos_iff.2 hh⟩
  exact ⟨⟨_, isD_strD (orZero_lt (decs_lt _)), by rw [dval_orZero', dval_decs]⟩, by omega, by omega, h1, h2⟩
theorem digs_len_decs {N k : Nat} (h : (decs N).length ≤ k) : (digs 1000000000 N).length ≤ k := Nat.le_trans (digs_len9 (lt_pow_decs N)) h
theorem shift_n (A : Option Addr) (m c N : Nat) (z : Int) (j : Nat) (w : World) (h : Limbs w A m (digs 1000000000 N)) (hm : m ≤ 100000000) (hz : max z 0 = (j : Int)) (hj : j ≤ 65536) (hP : Pw w) :
    Calls Tryd.prog 20 #[.slice A m c, .int .i64 z] w fun e w' => ∃ A' m' c', e = .returned (.slice A' m' c') ∧ OwnS w' w.heap.size A' m' c' (digs 1000000000 (N * 10 ^ j)) ∧ Below w.heap.size w w' := by
  have := tenShift_c A m c _ z j w h (digs_lt _ (by omega) N) hm hz hj hP
  rwa [val_digs 1000000000 (by omega)] at this
theorem natAdd_n (A A' : Option Addr) (n c n' c' X Y : Nat) (w : World) (h : Limbs w A n (digs 1000000000 X)) (h' : Limbs w A' n' (digs 1000000000 Y)) (hn : n ≤ 100000000) (hn' : n' ≤ 100000000) :
    Calls Tryd.prog 28 #[.slice A n c, .slice A' n' c'] w fun e w' => ∃ A1 m1 c1, e = .returned (.slice A1 m1 c1) ∧ OwnS w' w.heap.size A1 m1 c1 (digs 1000000000 (X + Y)) ∧ Below w.heap.size w w' := by
  have := add_c A A' n c n' c' _ _ w h h' (digs_lt _ (by omega) X) (digs_lt _ (by omega) Y) (by omega) (by omega)
  rwa [val_digs 1000000000 (by omega), val_digs 1000000000 (by omega)] at this
theorem natSub_lt (A A' : Option Addr) (n c n' c' X Y : Nat) (w : World) (h : Limbs w A n (digs 1000000000 X)) (h' : Limbs w A' n' (digs 1000000000 Y)) (hlt : X < Y) :
    Calls Tryd.prog 89 #[.slice A n c, .slice A' n' c'] w fun e w' => e = .returned (.tuple #[.slice none 0 0, .bool false]) ∧ Below w.heap.size w w' :=
  sub_less A A' n c n' c' _ _ w h h' (digs_lt _ (by omega) X) (digs_lt _ (by omega) Y) (by rw [val_digs 1000000000 (by omega), val_digs 1000000000 (by omega)]; exact hlt)
theorem natSub_ge (A A' : Option Addr) (n c n' c' X Y : Nat) (w : World) (h : Limbs w A n (digs 1000000000 X)) (h' : Limbs w A' n' (digs 1000000000 Y)) (hge : Y ≤ X) (hn : n ≤ 100000000) :
    Calls Tryd.prog 89 #[.slice A n c, .slice A' n' c'] w fun e w' => ∃ A1 m1 c1, e = .returned (.tuple #[.slice A1 m1 c1, .bool true]) ∧ OwnS w' w.heap.size A1 m1 c1 (digs 1000000000 (X - Y)) ∧ Below w.heap.size w w' := by
  have := sub_geq A A' n c n' c' _ _ w h h' (digs_lt _ (by omega) X) (digs_lt _ (by omega) Y) (by rw [val_digs 1000000000 (by omega), val_digs 1000000000 (by omega)]; exact hge) (by omega)
  rwa [val_digs 1000000000 (by omega), val_digs 1000000000 (by omega)] at this
theorem natMul_n (A A' : Option Addr) (n c n' c' X Y : Nat) (w : World) (h : Limbs w A n (digs 1000000000 X)) (h' : Limbs w A' n' (digs 1000000000 Y)) (hn : n ≤ 100000000) (hn' : n' ≤ 100000000) :
    Calls Tryd.prog 30 #[.slice A n c, .slice A' n' c'] w fun e w' => ∃ A1 m1 c1, e = .returned (.slice A1 m1 c1) ∧ OwnS w' w.heap.size A1 m1 c1 (digs 1000000000 (X * Y)) ∧ Below w.heap.size w w' := by
  have := mul_c A A' n c n' c' _ _ w h h' (digs_lt _ (by omega) X) (digs_lt _ (by omega) Y) hn hn'
  rwa [val_digs 1000000000 (by omega), val_digs 1000000000 (by omega)] at this
theorem digits_n (A : Option Addr) (m c N : Nat) (w : World) (h : Limbs w A m (digs 1000000000 N)) (hn : m ≤ 100000000) (hP : Pw w) :
    Calls Tryd.prog 29 #[.slice A m c] w fun e w' => e = .returned (.string (strD (orZero (decs N)))) ∧ Below w.heap.size w w' := by
  have := tenDigits_c A m c _ w h (digs_lt _ (by omega) N) hn hP
  rw [val_digs 1000000000 (by omega)] at this
  refine this.mono ?_
  rintro r w' ⟨s, rfl, hs, hb⟩
  exact ⟨by rw [hs.eq_strD], hb⟩
end Go.Proofs.YtekanlcfgfllcaaDoor
/- Ar1 -/
/-
  Ar1: arith.lowered, arith.decimal, arith.Add, Sub, Mul, Neg, Abs, Scale.
-/
namespace Go.Proofs.YtekanlcfgfllcaaDoor
open Go.RowKit


theorem decs_add {X Y L : Nat} (h1 : (decs X).length ≤ L) (h2 : (decs Y).length ≤ L) : (decs (X + Y)).length ≤ L + 1 := by
  refine decs_len ?_
  have h3 := Nat.lt_of_lt_of_le (lt_pow_decs X) (Nat.pow_le_pow_right (by omega) h1)
  have h4 := Nat.lt_of_lt_of_le (lt_pow_decs Y) (Nat.pow_le_pow_right (by omega) h2)
  rw [Nat.pow_succ]
  omega
theorem decs_mul {X Y L M : Nat} (h1 : (decs X).length ≤ L) (h2 : (decs Y).length ≤ M) : (decs (X * Y)).length ≤ L + M := by
  refine decs_len ?_
  have h3 := Nat.lt_of_lt_of_le (lt_pow_decs X) (Nat.pow_le_pow_right (by omega) h1)
  have h4 := Nat.lt_of_lt_of_le (lt_pow_decs Y) (Nat.pow_le_pow_right (by omega) h2)
  rw [Nat.pow_add]
  exact Nat.mul_lt_mul_of_lt_of_lt h3 h4
theorem pneg_false (N : Nat) : pneg false N = false := by unfold pneg; split <;> rfl
theorem pneg_zero (n : Bool) : pneg n 0 = false := rfl
theorem pneg_of {N : Nat} (n : Bool) (h : N ≠ 0) : pneg n N = n := by rw [pneg, if_neg h]
theorem zero_digs {N : Nat} (h : (digs 1000000000 N).length = 0) : N = 0 := by
  have := List.eq_nil_of_length_eq_zero h
  have h2 := val_digs 1000000000 (by omega) N
  rw [this] at h2
  exact h2.symm
end Go.Proofs.YtekanlcfgfllcaaDoor
/- Ar2 -/
/-
  Ar2: arith.Add.
-/
namespace Go.Proofs.YtekanlcfgfllcaaDoor
open Go.RowKit

end Go.Proofs.YtekanlcfgfllcaaDoor
/- Ar3 -/
/-
  Ar3: arith.Sub, arith.Mul; sums and products by value.
-/
namespace Go.Proofs.YtekanlcfgfllcaaDoor
open Go.RowKit

theorem atE_two (n : Bool) (N : Nat) (e k : Int) {m : Int} (h1 : k ≤ m) (h2 : m ≤ e) : atE n N e k = atE n N e m * (10 ^ (m - k).toNat : Nat) := by
  have := atE_finer n N e m (m - k).toNat h2
  rwa [show m - ((m - k).toNat : Int) = k by omega] at this
theorem decs_atE {n : Bool} {N : Nat} {e k m : Int} (h1 : k ≤ m) (_h2 : m ≤ e) : (decs (N * 10 ^ (e - m).toNat)).length ≤ (decs (atE n N e k).natAbs).length := by
  refine decs_length_le ?_
  rw [atE, sv_natAbs]
  exact Nat.mul_le_mul_left _ (Nat.pow_le_pow_right (by omega) (by omega))
theorem mul_swap4 (a b x y : Int) : a * x * (b * y) = a * b * (x * y) := by
  rw [Int.mul_assoc, Int.mul_assoc, Int.mul_left_comm x b y]
theorem add_min {e f k : Int} {n m : Bool} {N M : Nat} (h1 : k ≤ e) (h2 : k ≤ f) :
    ∃ (p : Int) (i j : Nat), min e f = p ∧ e - p = (i : Int) ∧ f - p = (j : Int) ∧ k ≤ p ∧ (zneg (sv n (N * 10 ^ i) + sv m (M * 10 ^ j)) = zneg (atE n N e k + atE m M f k) ∧
      zstr (sv n (N * 10 ^ i) + sv m (M * 10 ^ j)) = zstr (atE n N e k + atE m M f k) ∧ zexp (sv n (N * 10 ^ i) + sv m (M * 10 ^ j)) p = zexp (atE n N e k + atE m M f k) k) ∧ i = (e - p).toNat ∧ j = (f - p).toNat := by
  refine ⟨min e f, (e - min e f).toNat, (f - min e f).toNat, rfl, by omega, by omega, by omega, ?_, rfl, rfl⟩
  have hs := z_same (Z := atE n N e (min e f) + atE m M f (min e f)) (Z' := atE n N e k + atE m M f k) (m := min e f) (m' := k) (min e f - k).toNat (by omega)
    (by rw [atE_two n N e k (m := min e f) (by omega) (by omega), atE_two m M f k (m := min e f) (by omega) (by omega), Int.add_mul])
  exact ⟨hs.1.symm, hs.2.1.symm, hs.2.2.symm⟩
theorem mul_z {n m : Bool} {N M : Nat} {e f k k' : Int} (h1 : k ≤ e) (h2 : k' ≤ f) :
    zneg (sv n N * sv m M) = zneg (atE n N e k * atE m M f k') ∧ zstr (sv n N * sv m M) = zstr (atE n N e k * atE m M f k') ∧ zexp (sv n N * sv m M) (e + f) = zexp (atE n N e k * atE m M f k') (k + k') := by
  have hs := z_same (Z := sv n N * sv m M) (Z' := atE n N e k * atE m M f k') (m := e + f) (m' := k + k') ((e - k).toNat + (f - k').toNat) (by omega)
    (by rw [atE, atE, sv_mul, sv_mul, mul_swap4, Nat.pow_add, Int.natCast_mul])
  exact ⟨hs.1.symm, hs.2.1.symm, hs.2.2.symm⟩
end Go.Proofs.YtekanlcfgfllcaaDoor
/- Rf6 -/
/-
  Rf6: the document's answers by value: Plus, Minus, Times, Over; Turn, plain, Make, Sum, Product.
-/
namespace Go.Proofs.YtekanlcfgfllcaaDoor
open Go.RowKit

theorem sizeD_le {X L : Nat} (h : (decs X).length ≤ L) : (strD (decs X)).size ≤ L := by rw [strD_size]; exact h
theorem plus_n (X Y : Nat) (w : World) (hx : (decs X).length ≤ 10000) (hy : (decs Y).length ≤ 10000) :
    Calls Tryd.prog 36 #[.string (strD (decs X)), .string (strD (decs Y))] w fun r w' => r = .returned (.string (strD (decs (X + Y)))) ∧ Below w.heap.size w w' := by
  have := plus_c _ _ _ _ w (isD_decs X) (isD_decs Y) (Nat.le_trans (sizeD_le hx) (by omega)) (Nat.le_trans (sizeD_le hy) (by omega))
  rw [dval_decs, dval_decs] at this
  refine this.mono ?_
  rintro r w' ⟨s, rfl, hs, hb⟩
  exact ⟨by rw [hs.eq_strD], hb⟩
theorem minus_n (X Y : Nat) (w : World) (hx : (decs X).length ≤ 10000) (hle : Y ≤ X) :
    Calls Tryd.prog 42 #[.string (strD (decs X)), .string (strD (decs Y))] w fun r w' => r = .returned (.string (strD (decs (X - Y)))) ∧ Below w.heap.size w w' := by
  have := minus_c _ _ _ _ w (isD_decs X) (isD_decs Y) (Nat.le_trans (sizeD_le hx) (by omega)) (decs_length_le hle) (by rw [dval_decs, dval_decs]; exact hle)
  rw [dval_decs, dval_decs] at this
  refine this.mono ?_
  rintro r w' ⟨s, rfl, hs, hb⟩
  exact ⟨by rw [hs.eq_strD], hb⟩
theorem times_n (X Y : Nat) (w : World) (hx : (decs X).length ≤ 10000) (hy : (decs Y).length ≤ 10000) :
    Calls Tryd.prog 40 #[.string (strD (decs X)), .string (strD (decs Y))] w fun r w' => r = .returned (.string (strD (decs (X * Y)))) ∧ Below w.heap.size w w' := by
  have := times_c _ _ _ _ w (isD_decs X) (isD_decs Y) (Nat.le_trans (sizeD_le hx) (by omega)) (Nat.le_trans (sizeD_le hy) (by omega))
  rw [dval_decs, dval_decs] at this
  refine this.mono ?_
  rintro r w' ⟨s, rfl, hs, hb⟩
  exact ⟨by rw [hs.eq_strD], hb⟩
theorem over_n (X Y : Nat) (w : World) (hx : (decs X).length ≤ 10000) (hy : (decs Y).length ≤ 10000) (h0 : 0 < Y) :
    Calls Tryd.prog 33 #[.string (strD (decs X)), .string (strD (decs Y))] w fun r w' => r = .returned (.tuple #[.string (strD (decs (X / Y))), .string (strD (decs (X % Y)))]) ∧ Below w.heap.size w w' := by
  have := over_c _ _ _ Y w (isD_decs X) (isD_decs Y) (Nat.le_trans (sizeD_le hx) (by omega)) (Nat.le_trans (sizeD_le hy) (by omega)) h0
  rw [dval_decs] at this
  refine this.mono ?_
  rintro r w' ⟨s, t, rfl, hs, ht, hb⟩
  exact ⟨by rw [hs.eq_strD, ht.eq_strD], hb⟩
set_option maxHeartbeats 1600000 in
set_option maxRecDepth 100000 in
theorem ref5Turn_c (n : Bool) (s : ByteArray) (e : Int) (w : World) :
    Calls Tryd.prog 14 #[.agg #[.bool n, .string s, .int .i64 e]] w fun r w' => r = .returned (.agg #[.bool (!n), .string s, .int .i64 e]) ∧ Below w.heap.size w w' := by
  go_enter Tryd.func14, Tryd.ntmps14
  go_wp2
  exact bodyPost_ret (by simp [results, Tryd.results14, go_sem]) rfl ⟨rfl, ((Below.refl _ w).alloc (Nat.le_refl _) _).alloc (by simp) _⟩

set_option maxHeartbeats 1600000 in
set_option maxRecDepth 100000 in
theorem ref5Plain_c (n : Bool) (X : Nat) (e : Int) (w : World) :
    Calls Tryd.prog 41 #[.agg #[.bool n, .string (nstr X), .int .i64 e]] w fun r w' => r = .returned (.agg #[.bool (pneg n X), .string (nstr X), .int .i64 e]) ∧ Below w.heap.size w w' := by
  by_cases hX : X = 0
  · have hq : ((nstr X).toList == [48]) = true := by rw [nstr_is0]; exact decide_eq_true hX
    subst hX
    rw [pneg_zero]
    go_enter Tryd.func41, Tryd.ntmps41
    go_wp2
    exact bodyPost_ret (by simp [results, Tryd.results41, go_sem]) rfl ⟨rfl, ((Below.refl _ w).alloc (Nat.le_refl _) _).alloc (by simp) _⟩
  · have hq : ((nstr X).toList == [48]) = false := by rw [nstr_is0]; exact decide_eq_false hX
    rw [pneg_of _ hX]
    clear hX
    go_enter Tryd.func41, Tryd.ntmps41
    go_wp2
    exact bodyPost_ret (by simp [results, Tryd.results41, go_sem]) rfl ⟨rfl, ((Below.refl _ w).alloc (Nat.le_refl _) _).alloc (by simp) _⟩

theorem da_zero_ahead {B : Nat} {X : Nat} {e : Int} (h : (decs X).length ≤ 4990) (h1 : -(B : Int) ≤ e) (h2 : e ≤ (B : Int)) : DA B (⟨#[48]⟩ ++ strD (decs X)) e X := by
  have hd := isD_zero.append (isD_decs X)
  have hs := hd.size
  have hl : ([0] ++ decs X).length = (decs X).length + 1 := by simp
  refine ⟨⟨_, hd, ?_⟩, by omega, by omega, h1, h2⟩
  rw [dval_append, dval_decs, show dval [0] = 0 by rfl]
  omega
set_option maxHeartbeats 1600000 in
set_option maxRecDepth 100000 in
theorem ref5Make_c (B : Nat) (n : Bool) (X : Nat) (e : Int) (w : World) (h : (decs X).length ≤ 4990) (h1 : -(B : Int) ≤ e) (h2 : e ≤ (B : Int)) (hB : B ≤ 1000000) (hP : Pw w) :
    Calls Tryd.prog 39 #[.bool n, .string (strD (decs X)), .int .i64 e] w fun r w' => r = .returned (.agg #[.bool n, .string (nstr X), .int .i64 (nexp X e)]) ∧ Below w.heap.size w w' := by
  have hb0 := (Below.refl w.heap.size w).alloc (Nat.le_refl _) (.cells #[.bool false, .string ⟨#[]⟩, .int .i64 0] 23)
  have HN := Lib.hid (ref5Norm_c B n _ e X (w.alloc (.cells #[.bool false, .string ⟨#[]⟩, .int .i64 0] 23)) (da_zero_ahead h h1 h2) hB (hP.below hb0))
  have X2 := Lib.hid (Box3.new w (.bool false) (.string ⟨#[]⟩) (.int .i64 0) 23)
  have HB0 := Lib.hid hb0
  have hsz : (strD (decs X)).size ≤ 5000 := Nat.le_trans (sizeD_le h) (by omega)
  have hsz2 : (⟨#[48]⟩ : ByteArray).size ≤ 5000 := by decide
  clear h h1 h2 hB hP hb0
  go_enter Tryd.func39, Tryd.ntmps39
  go_wp2_with fail
  refine HN.out.mono ?_
  rintro r w1 ⟨rfl, hb⟩
  obtain ⟨d0, d1, d2, f0, f1, f2, hz⟩ := X2.out.keep hb
  have HB1 := Lib.hid (HB0.out.trans (hb.mono HB0.out.size))
  clear X2 HB0 hb HN
  go_wp2
  exact bodyPost_ret (by simp [results, Tryd.results39, go_sem, d0, d1, d2]) rfl
    ⟨rfl, ((HB1.out.setCell (by simp) _).setCell (by simp) _).setCell (by simp) _⟩

theorem ref5At_v (B : Nat) (n : Bool) (s : ByteArray) (e k : Int) (j : Nat) (N X : Nat) (w : World) (h : DA B s e N) (hB : B ≤ 1000000) (hk : -1000000 ≤ k) (hj : e - k = (j : Int)) (hX : N * 10 ^ j = X) (hP : Pw w) :
    Calls Tryd.prog 34 #[.agg #[.bool n, .string s, .int .i64 e], .int .i64 k] w fun r w' => r = .returned (.string (strD (decs X))) ∧ Below w.heap.size w w' := by
  subst hX; exact ref5At_c B n s e k j N w h hB hk hj hP
set_option maxHeartbeats 8000000 in
set_option maxRecDepth 100000 in
theorem ref5Sum0_c (B : Nat) (n m : Bool) (s t : ByteArray) (e f : Int) (N M X Y : Nat) (k : Int) (i j : Nat) (w : World) (h : DA B s e N) (h' : DA B t f M) (hk : min e f = k) (hi : e - k = (i : Int)) (hj : f - k = (j : Int)) (hX : N * 10 ^ i = X) (hY : M * 10 ^ j = Y) (hB : B ≤ 30000) (hx : (decs X).length ≤ 4950) (hy : (decs Y).length ≤ 4950) (hP : Pw w) :
    Calls Tryd.prog 13 #[.agg #[.bool n, .string s, .int .i64 e], .agg #[.bool m, .string t, .int .i64 f]] w fun r w' => r = .returned (.agg #[.bool (zneg (sv n X + sv m Y)), .string (zstr (sv n X + sv m Y)), .int .i64 (zexp (sv n X + sv m Y) k)]) ∧ Below w.heap.size w w' := by
  have HF := Lib.hid (h.mono hB)
  have HF' := Lib.hid (h'.mono hB)
  have hi3 : -30000 ≤ k ∧ k ≤ 30000 := by have := h.lo; have := h'.lo; have := h.hi; have := h'.hi; omega
  obtain ⟨hk3, hk4⟩ := hi3
  have hk1 : -1000000 ≤ k := by omega
  have HX := Lib.hid hX
  have HY := Lib.hid hY
  have HI := Lib.hid hi
  have HJ := Lib.hid hj
  clear h h' hX hY hi hj hB
  by_cases hfe : f < e
  · obtain rfl : f = k := by omega
    clear hk
    by_cases hnm : n = m
    · subst hnm
      rw [sv_add, ← pneg_sv, zstr_sv, zexp_sv]
      have HNL := Lib.hid (show (decs (X + Y)).length ≤ 4990 by have := decs_add hx hy; omega)
      have HXL := Lib.hid (show (decs X).length ≤ 10000 by omega)
      have HYL := Lib.hid (show (decs Y).length ≤ 10000 by omega)
      clear hx hy
      have HK := Lib.hid (kept4_two w (.bool n) (.string s) (.int .i64 e) (.bool n) (.string t) (.int .i64 f) (.bool false) (.string ⟨#[]⟩) (.int .i64 0) 23 23 hP)
      clear hP
      go_enter Tryd.func13, Tryd.ntmps13
      go_wp2
      have hS : Sd4 w [(w.heap.size, .bool n, .string s, .int .i64 (e)), (w.heap.size + 1, .bool n, .string t, .int .i64 (f))] (w.heap.size + 1 + 1) _ := .of (HK.out).drew
      go_region_held3 (fun w' => (((w'.cell? ⟨w.heap.size, 0, none⟩ = some (.bool n) ∧ w'.cell? ⟨w.heap.size, 1, none⟩ = some (.string s) ∧ w'.cell? ⟨w.heap.size, 2, none⟩ = some (.int .i64 (e))) ∧ (w'.cell? ⟨w.heap.size + 1, 0, none⟩ = some (.bool n) ∧ w'.cell? ⟨w.heap.size + 1, 1, none⟩ = some (.string t) ∧ w'.cell? ⟨w.heap.size + 1, 2, none⟩ = some (.int .i64 (f))) ∧ True) ∧ (w'.cell? ⟨w.heap.size + 1 + 1, 0, none⟩ = some (rd w' (w.heap.size + 1 + 1) 0) ∧ w'.cell? ⟨w.heap.size + 1 + 1, 1, none⟩ = some (rd w' (w.heap.size + 1 + 1) 1) ∧ w'.cell? ⟨w.heap.size + 1 + 1, 2, none⟩ = some (rd w' (w.heap.size + 1 + 1) 2) ∧ w'.frozen? ⟨w.heap.size + 1 + 1, 0, none⟩ = false ∧ w'.frozen? ⟨w.heap.size + 1 + 1, 1, none⟩ = false ∧ w'.frozen? ⟨w.heap.size + 1 + 1, 2, none⟩ = false)) ∧ Hid (Kept4 w [(w.heap.size, .bool n, .string s, .int .i64 (e)), (w.heap.size + 1, .bool n, .string t, .int .i64 (f))] (w.heap.size + 1 + 1) w')) (first | exact hS | exact Sd4.store (w0 := w) (L := [(w.heap.size, .bool n, .string s, .int .i64 (e)), (w.heap.size + 1, .bool n, .string t, .int .i64 (f))]) (g := w.heap.size + 1 + 1) hS _ _ _)
        (first
          | (go_at_call 34; refine (ref5At_v _ _ _ _ _ _ _ _ _ (by first | exact HF.out | exact HF'.out) (by omega) hk1 (by first | exact HI.out | exact HJ.out) (by first | exact HX.out | exact HY.out) (Sd4.pw (w0 := w) (L := [(w.heap.size, .bool n, .string s, .int .i64 (e)), (w.heap.size + 1, .bool n, .string t, .int .i64 (f))]) (g := w.heap.size + 1 + 1) (by assumption))).mono ?_; rintro r w1 ⟨rfl, hb⟩; have hS := Sd4.keep (w0 := w) (L := [(w.heap.size, .bool n, .string s, .int .i64 (e)), (w.heap.size + 1, .bool n, .string t, .int .i64 (f))]) (g := w.heap.size + 1 + 1) (by assumption) hb; clear hb))
      rename_i hHeld
      clear hHeld
      obtain ⟨⟨⟨⟨c00, c01, c02⟩, ⟨c10, c11, c12⟩, -⟩, ⟨d0, d1, d2, f0, f1, f2⟩⟩, hk⟩ := hS
      have hk2 := hk.out
      go_wp2
      clear c00 c01 c02 c10 c11 c12 d0 d1 d2 f0 f1 f2
      clear hk
      have hS : Sd4 w [(w.heap.size, .bool n, .string s, .int .i64 (e)), (w.heap.size + 1, .bool n, .string t, .int .i64 (f))] (w.heap.size + 1 + 1) _ := .of (hk2).drew
      go_region_held3 (fun w' => (((w'.cell? ⟨w.heap.size, 0, none⟩ = some (.bool n) ∧ w'.cell? ⟨w.heap.size, 1, none⟩ = some (.string s) ∧ w'.cell? ⟨w.heap.size, 2, none⟩ = some (.int .i64 (e))) ∧ (w'.cell? ⟨w.heap.size + 1, 0, none⟩ = some (.bool n) ∧ w'.cell? ⟨w.heap.size + 1, 1, none⟩ = some (.string t) ∧ w'.cell? ⟨w.heap.size + 1, 2, none⟩ = some (.int .i64 (f))) ∧ True) ∧ (w'.cell? ⟨w.heap.size + 1 + 1, 0, none⟩ = some (rd w' (w.heap.size + 1 + 1) 0) ∧ w'.cell? ⟨w.heap.size + 1 + 1, 1, none⟩ = some (rd w' (w.heap.size + 1 + 1) 1) ∧ w'.cell? ⟨w.heap.size + 1 + 1, 2, none⟩ = some (rd w' (w.heap.size + 1 + 1) 2) ∧ w'.frozen? ⟨w.heap.size + 1 + 1, 0, none⟩ = false ∧ w'.frozen? ⟨w.heap.size + 1 + 1, 1, none⟩ = false ∧ w'.frozen? ⟨w.heap.size + 1 + 1, 2, none⟩ = false)) ∧ Hid (Kept4 w [(w.heap.size, .bool n, .string s, .int .i64 (e)), (w.heap.size + 1, .bool n, .string t, .int .i64 (f))] (w.heap.size + 1 + 1) w')) (first | exact hS | exact Sd4.store (w0 := w) (L := [(w.heap.size, .bool n, .string s, .int .i64 (e)), (w.heap.size + 1, .bool n, .string t, .int .i64 (f))]) (g := w.heap.size + 1 + 1) hS _ _ _)
        (first
          | (go_at_call 36; refine (plus_n X Y _ HXL.out HYL.out).mono ?_; rintro r w1 ⟨rfl, hb⟩; have hS := Sd4.keep (w0 := w) (L := [(w.heap.size, .bool n, .string s, .int .i64 (e)), (w.heap.size + 1, .bool n, .string t, .int .i64 (f))]) (g := w.heap.size + 1 + 1) (by assumption) hb; clear hb)
          | (go_at_call 39; refine (ref5Make_c 30000 _ _ _ _ HNL.out (by omega) (by omega) (by omega) (Sd4.pw (w0 := w) (L := [(w.heap.size, .bool n, .string s, .int .i64 (e)), (w.heap.size + 1, .bool n, .string t, .int .i64 (f))]) (g := w.heap.size + 1 + 1) (by assumption))).mono ?_; rintro r w1 ⟨rfl, hb⟩; have hS := Sd4.keep (w0 := w) (L := [(w.heap.size, .bool n, .string s, .int .i64 (e)), (w.heap.size + 1, .bool n, .string t, .int .i64 (f))]) (g := w.heap.size + 1 + 1) (by assumption) hb; clear hb)
          | (go_at_call 41; refine (ref5Plain_c _ _ _ _).mono ?_; rintro r w1 ⟨rfl, hb⟩; have hS := Sd4.keep (w0 := w) (L := [(w.heap.size, .bool n, .string s, .int .i64 (e)), (w.heap.size + 1, .bool n, .string t, .int .i64 (f))]) (g := w.heap.size + 1 + 1) (by assumption) hb; clear hb))
      rename_i hHeld
      clear hHeld
      obtain ⟨⟨-, ⟨d0, d1, d2, f0, f1, f2⟩⟩, hk⟩ := hS
      go_wp2
      exact bodyPost_ret (by simp [results, Tryd.results13, go_sem, d0, d1, d2] <;> rfl) rfl
        ⟨rfl, (hk.out.store _ _ _).1.2.1⟩
    · by_cases hlt : Y ≤ X
      · have hnb : (n == m) = false := by rwa [beq_eq_false_iff_ne]
        rw [sv_sub_ge hnm hlt, ← pneg_sv, zstr_sv, zexp_sv]
        have HNL := Lib.hid (show (decs (X - Y)).length ≤ 4990 by have := decs_length_le (Nat.sub_le X Y); omega)
        have HLT := Lib.hid hlt
        have HLS := Lib.hid (fun w => (less_c (strD (decs X)) (strD (decs Y)) X Y w (isD_decs X) (isD_decs Y)))
        rw [decide_eq_false (by omega)] at HLS
        clear hnm hlt
        have HXL := Lib.hid (show (decs X).length ≤ 10000 by omega)
        have HYL := Lib.hid (show (decs Y).length ≤ 10000 by omega)
        clear hx hy
        have HK := Lib.hid (kept4_two w (.bool n) (.string s) (.int .i64 e) (.bool m) (.string t) (.int .i64 f) (.bool false) (.string ⟨#[]⟩) (.int .i64 0) 23 23 hP)
        clear hP
        go_enter Tryd.func13, Tryd.ntmps13
        go_wp2
        have hS : Sd4 w [(w.heap.size, .bool n, .string s, .int .i64 (e)), (w.heap.size + 1, .bool m, .string t, .int .i64 (f))] (w.heap.size + 1 + 1) _ := .of (HK.out).drew
        go_region_held3 (fun w' => (((w'.cell? ⟨w.heap.size, 0, none⟩ = some (.bool n) ∧ w'.cell? ⟨w.heap.size, 1, none⟩ = some (.string s) ∧ w'.cell? ⟨w.heap.size, 2, none⟩ = some (.int .i64 (e))) ∧ (w'.cell? ⟨w.heap.size + 1, 0, none⟩ = some (.bool m) ∧ w'.cell? ⟨w.heap.size + 1, 1, none⟩ = some (.string t) ∧ w'.cell? ⟨w.heap.size + 1, 2, none⟩ = some (.int .i64 (f))) ∧ True) ∧ (w'.cell? ⟨w.heap.size + 1 + 1, 0, none⟩ = some (rd w' (w.heap.size + 1 + 1) 0) ∧ w'.cell? ⟨w.heap.size + 1 + 1, 1, none⟩ = some (rd w' (w.heap.size + 1 + 1) 1) ∧ w'.cell? ⟨w.heap.size + 1 + 1, 2, none⟩ = some (rd w' (w.heap.size + 1 + 1) 2) ∧ w'.frozen? ⟨w.heap.size + 1 + 1, 0, none⟩ = false ∧ w'.frozen? ⟨w.heap.size + 1 + 1, 1, none⟩ = false ∧ w'.frozen? ⟨w.heap.size + 1 + 1, 2, none⟩ = false)) ∧ Hid (Kept4 w [(w.heap.size, .bool n, .string s, .int .i64 (e)), (w.heap.size + 1, .bool m, .string t, .int .i64 (f))] (w.heap.size + 1 + 1) w')) (first | exact hS | exact Sd4.store (w0 := w) (L := [(w.heap.size, .bool n, .string s, .int .i64 (e)), (w.heap.size + 1, .bool m, .string t, .int .i64 (f))]) (g := w.heap.size + 1 + 1) hS _ _ _)
          (first
            | (go_at_call 34; refine (ref5At_v _ _ _ _ _ _ _ _ _ (by first | exact HF.out | exact HF'.out) (by omega) hk1 (by first | exact HI.out | exact HJ.out) (by first | exact HX.out | exact HY.out) (Sd4.pw (w0 := w) (L := [(w.heap.size, .bool n, .string s, .int .i64 (e)), (w.heap.size + 1, .bool m, .string t, .int .i64 (f))]) (g := w.heap.size + 1 + 1) (by assumption))).mono ?_; rintro r w1 ⟨rfl, hb⟩; have hS := Sd4.keep (w0 := w) (L := [(w.heap.size, .bool n, .string s, .int .i64 (e)), (w.heap.size + 1, .bool m, .string t, .int .i64 (f))]) (g := w.heap.size + 1 + 1) (by assumption) hb; clear hb))
        rename_i hHeld
        clear hHeld
        obtain ⟨⟨⟨⟨c00, c01, c02⟩, ⟨c10, c11, c12⟩, -⟩, ⟨d0, d1, d2, f0, f1, f2⟩⟩, hk⟩ := hS
        have hk2 := hk.out
        go_wp2_with fail
        refine (HLS.out _).mono ?_
        rintro r w5 ⟨rfl, rfl⟩
        go_wp2
        clear c00 c01 c02 c10 c11 c12 d0 d1 d2 f0 f1 f2
        clear hk
        have hS : Sd4 w [(w.heap.size, .bool n, .string s, .int .i64 (e)), (w.heap.size + 1, .bool m, .string t, .int .i64 (f))] (w.heap.size + 1 + 1) _ := .of (hk2).drew
        go_region_held3 (fun w' => (((w'.cell? ⟨w.heap.size, 0, none⟩ = some (.bool n) ∧ w'.cell? ⟨w.heap.size, 1, none⟩ = some (.string s) ∧ w'.cell? ⟨w.heap.size, 2, none⟩ = some (.int .i64 (e))) ∧ (w'.cell? ⟨w.heap.size + 1, 0, none⟩ = some (.bool m) ∧ w'.cell? ⟨w.heap.size + 1, 1, none⟩ = some (.string t) ∧ w'.cell? ⟨w.heap.size + 1, 2, none⟩ = some (.int .i64 (f))) ∧ True) ∧ (w'.cell? ⟨w.heap.size + 1 + 1, 0, none⟩ = some (rd w' (w.heap.size + 1 + 1) 0) ∧ w'.cell? ⟨w.heap.size + 1 + 1, 1, none⟩ = some (rd w' (w.heap.size + 1 + 1) 1) ∧ w'.cell? ⟨w.heap.size + 1 + 1, 2, none⟩ = some (rd w' (w.heap.size + 1 + 1) 2) ∧ w'.frozen? ⟨w.heap.size + 1 + 1, 0, none⟩ = false ∧ w'.frozen? ⟨w.heap.size + 1 + 1, 1, none⟩ = false ∧ w'.frozen? ⟨w.heap.size + 1 + 1, 2, none⟩ = false)) ∧ Hid (Kept4 w [(w.heap.size, .bool n, .string s, .int .i64 (e)), (w.heap.size + 1, .bool m, .string t, .int .i64 (f))] (w.heap.size + 1 + 1) w')) (first | exact hS | exact Sd4.store (w0 := w) (L := [(w.heap.size, .bool n, .string s, .int .i64 (e)), (w.heap.size + 1, .bool m, .string t, .int .i64 (f))]) (g := w.heap.size + 1 + 1) hS _ _ _)
          (first
            | (go_at_call 42; refine (minus_n X Y _ HXL.out HLT.out).mono ?_; rintro r w1 ⟨rfl, hb⟩; have hS := Sd4.keep (w0 := w) (L := [(w.heap.size, .bool n, .string s, .int .i64 (e)), (w.heap.size + 1, .bool m, .string t, .int .i64 (f))]) (g := w.heap.size + 1 + 1) (by assumption) hb; clear hb)
            | (go_at_call 39; refine (ref5Make_c 30000 _ _ _ _ HNL.out (by omega) (by omega) (by omega) (Sd4.pw (w0 := w) (L := [(w.heap.size, .bool n, .string s, .int .i64 (e)), (w.heap.size + 1, .bool m, .string t, .int .i64 (f))]) (g := w.heap.size + 1 + 1) (by assumption))).mono ?_; rintro r w1 ⟨rfl, hb⟩; have hS := Sd4.keep (w0 := w) (L := [(w.heap.size, .bool n, .string s, .int .i64 (e)), (w.heap.size + 1, .bool m, .string t, .int .i64 (f))]) (g := w.heap.size + 1 + 1) (by assumption) hb; clear hb)
            | (go_at_call 41; refine (ref5Plain_c _ _ _ _).mono ?_; rintro r w1 ⟨rfl, hb⟩; have hS := Sd4.keep (w0 := w) (L := [(w.heap.size, .bool n, .string s, .int .i64 (e)), (w.heap.size + 1, .bool m, .string t, .int .i64 (f))]) (g := w.heap.size + 1 + 1) (by assumption) hb; clear hb))
        rename_i hHeld
        clear hHeld
        obtain ⟨⟨-, ⟨d0, d1, d2, f0, f1, f2⟩⟩, hk⟩ := hS
        go_wp2
        exact bodyPost_ret (by simp [results, Tryd.results13, go_sem, d0, d1, d2] <;> rfl) rfl
          ⟨rfl, (hk.out.store _ _ _).1.2.1⟩
      · rw [Nat.not_le] at hlt
        have hnb : (n == m) = false := by rwa [beq_eq_false_iff_ne]
        rw [sv_sub_lt hnm hlt, ← pneg_sv, zstr_sv, zexp_sv]
        have HNL := Lib.hid (show (decs (Y - X)).length ≤ 4990 by have := decs_length_le (Nat.sub_le Y X); omega)
        have HLT := Lib.hid (Nat.le_of_lt hlt)
        have HLS := Lib.hid (fun w => (less_c (strD (decs X)) (strD (decs Y)) X Y w (isD_decs X) (isD_decs Y)))
        rw [decide_eq_true hlt] at HLS
        clear hnm hlt
        have HXL := Lib.hid (show (decs X).length ≤ 10000 by omega)
        have HYL := Lib.hid (show (decs Y).length ≤ 10000 by omega)
        clear hx hy
        have HK := Lib.hid (kept4_two w (.bool n) (.string s) (.int .i64 e) (.bool m) (.string t) (.int .i64 f) (.bool false) (.string ⟨#[]⟩) (.int .i64 0) 23 23 hP)
        clear hP
        go_enter Tryd.func13, Tryd.ntmps13
        go_wp2
        have hS : Sd4 w [(w.heap.size, .bool n, .string s, .int .i64 (e)), (w.heap.size + 1, .bool m, .string t, .int .i64 (f))] (w.heap.size + 1 + 1) _ := .of (HK.out).drew
        go_region_held3 (fun w' => (((w'.cell? ⟨w.heap.size, 0, none⟩ = some (.bool n) ∧ w'.cell? ⟨w.heap.size, 1, none⟩ = some (.string s) ∧ w'.cell? ⟨w.heap.size, 2, none⟩ = some (.int .i64 (e))) ∧ (w'.cell? ⟨w.heap.size + 1, 0, none⟩ = some (.bool m) ∧ w'.cell? ⟨w.heap.size + 1, 1, none⟩ = some (.string t) ∧ w'.cell? ⟨w.heap.size + 1, 2, none⟩ = some (.int .i64 (f))) ∧ True) ∧ (w'.cell? ⟨w.heap.size + 1 + 1, 0, none⟩ = some (rd w' (w.heap.size + 1 + 1) 0) ∧ w'.cell? ⟨w.heap.size + 1 + 1, 1, none⟩ = some (rd w' (w.heap.size + 1 + 1) 1) ∧ w'.cell? ⟨w.heap.size + 1 + 1, 2, none⟩ = some (rd w' (w.heap.size + 1 + 1) 2) ∧ w'.frozen? ⟨w.heap.size + 1 + 1, 0, none⟩ = false ∧ w'.frozen? ⟨w.heap.size + 1 + 1, 1, none⟩ = false ∧ w'.frozen? ⟨w.heap.size + 1 + 1, 2, none⟩ = false)) ∧ Hid (Kept4 w [(w.heap.size, .bool n, .string s, .int .i64 (e)), (w.heap.size + 1, .bool m, .string t, .int .i64 (f))] (w.heap.size + 1 + 1) w')) (first | exact hS | exact Sd4.store (w0 := w) (L := [(w.heap.size, .bool n, .string s, .int .i64 (e)), (w.heap.size + 1, .bool m, .string t, .int .i64 (f))]) (g := w.heap.size + 1 + 1) hS _ _ _)
          (first
            | (go_at_call 34; refine (ref5At_v _ _ _ _ _ _ _ _ _ (by first | exact HF.out | exact HF'.out) (by omega) hk1 (by first | exact HI.out | exact HJ.out) (by first | exact HX.out | exact HY.out) (Sd4.pw (w0 := w) (L := [(w.heap.size, .bool n, .string s, .int .i64 (e)), (w.heap.size + 1, .bool m, .string t, .int .i64 (f))]) (g := w.heap.size + 1 + 1) (by assumption))).mono ?_; rintro r w1 ⟨rfl, hb⟩; have hS := Sd4.keep (w0 := w) (L := [(w.heap.size, .bool n, .string s, .int .i64 (e)), (w.heap.size + 1, .bool m, .string t, .int .i64 (f))]) (g := w.heap.size + 1 + 1) (by assumption) hb; clear hb))
        rename_i hHeld
        clear hHeld
        obtain ⟨⟨⟨⟨c00, c01, c02⟩, ⟨c10, c11, c12⟩, -⟩, ⟨d0, d1, d2, f0, f1, f2⟩⟩, hk⟩ := hS
        have hk2 := hk.out
        go_wp2_with fail
        refine (HLS.out _).mono ?_
        rintro r w5 ⟨rfl, rfl⟩
        go_wp2
        clear c00 c01 c02 c10 c11 c12 d0 d1 d2 f0 f1 f2
        clear hk
        have hS : Sd4 w [(w.heap.size, .bool n, .string s, .int .i64 (e)), (w.heap.size + 1, .bool m, .string t, .int .i64 (f))] (w.heap.size + 1 + 1) _ := .of (hk2).drew
        go_region_held3 (fun w' => (((w'.cell? ⟨w.heap.size, 0, none⟩ = some (.bool n) ∧ w'.cell? ⟨w.heap.size, 1, none⟩ = some (.string s) ∧ w'.cell? ⟨w.heap.size, 2, none⟩ = some (.int .i64 (e))) ∧ (w'.cell? ⟨w.heap.size + 1, 0, none⟩ = some (.bool m) ∧ w'.cell? ⟨w.heap.size + 1, 1, none⟩ = some (.string t) ∧ w'.cell? ⟨w.heap.size + 1, 2, none⟩ = some (.int .i64 (f))) ∧ True) ∧ (w'.cell? ⟨w.heap.size + 1 + 1, 0, none⟩ = some (rd w' (w.heap.size + 1 + 1) 0) ∧ w'.cell? ⟨w.heap.size + 1 + 1, 1, none⟩ = some (rd w' (w.heap.size + 1 + 1) 1) ∧ w'.cell? ⟨w.heap.size + 1 + 1, 2, none⟩ = some (rd w' (w.heap.size + 1 + 1) 2) ∧ w'.frozen? ⟨w.heap.size + 1 + 1, 0, none⟩ = false ∧ w'.frozen? ⟨w.heap.size + 1 + 1, 1, none⟩ = false ∧ w'.frozen? ⟨w.heap.size + 1 + 1, 2, none⟩ = false)) ∧ Hid (Kept4 w [(w.heap.size, .bool n, .string s, .int .i64 (e)), (w.heap.size + 1, .bool m, .string t, .int .i64 (f))] (w.heap.size + 1 + 1) w')) (first | exact hS | exact Sd4.store (w0 := w) (L := [(w.heap.size, .bool n, .string s, .int .i64 (e)), (w.heap.size + 1, .bool m, .string t, .int .i64 (f))]) (g := w.heap.size + 1 + 1) hS _ _ _)
          (first
            | (go_at_call 42; refine (minus_n Y X _ HYL.out HLT.out).mono ?_; rintro r w1 ⟨rfl, hb⟩; have hS := Sd4.keep (w0 := w) (L := [(w.heap.size, .bool n, .string s, .int .i64 (e)), (w.heap.size + 1, .bool m, .string t, .int .i64 (f))]) (g := w.heap.size + 1 + 1) (by assumption) hb; clear hb)
            | (go_at_call 39; refine (ref5Make_c 30000 _ _ _ _ HNL.out (by omega) (by omega) (by omega) (Sd4.pw (w0 := w) (L := [(w.heap.size, .bool n, .string s, .int .i64 (e)), (w.heap.size + 1, .bool m, .string t, .int .i64 (f))]) (g := w.heap.size + 1 + 1) (by assumption))).mono ?_; rintro r w1 ⟨rfl, hb⟩; have hS := Sd4.keep (w0 := w) (L := [(w.heap.size, .bool n, .string s, .int .i64 (e)), (w.heap.size + 1, .bool m, .string t, .int .i64 (f))]) (g := w.heap.size + 1 + 1) (by assumption) hb; clear hb)
            | (go_at_call 41; refine (ref5Plain_c _ _ _ _).mono ?_; rintro r w1 ⟨rfl, hb⟩; have hS := Sd4.keep (w0 := w) (L := [(w.heap.size, .bool n, .string s, .int .i64 (e)), (w.heap.size + 1, .bool m, .string t, .int .i64 (f))]) (g := w.heap.size + 1 + 1) (by assumption) hb; clear hb))
        rename_i hHeld
        clear hHeld
        obtain ⟨⟨-, ⟨d0, d1, d2, f0, f1, f2⟩⟩, hk⟩ := hS
        go_wp2
        exact bodyPost_ret (by simp [results, Tryd.results13, go_sem, d0, d1, d2] <;> rfl) rfl
          ⟨rfl, (hk.out.store _ _ _).1.2.1⟩
  · obtain rfl : e = k := by omega
    clear hk
    by_cases hnm : n = m
    · subst hnm
      rw [sv_add, ← pneg_sv, zstr_sv, zexp_sv]
      have HNL := Lib.hid (show (decs (X + Y)).length ≤ 4990 by have := decs_add hx hy; omega)
      have HXL := Lib.hid (show (decs X).length ≤ 10000 by omega)
      have HYL := Lib.hid (show (decs Y).length ≤ 10000 by omega)
      clear hx hy
      have HK := Lib.hid (kept4_two w (.bool n) (.string s) (.int .i64 e) (.bool n) (.string t) (.int .i64 f) (.bool false) (.string ⟨#[]⟩) (.int .i64 0) 23 23 hP)
      clear hP
      go_enter Tryd.func13, Tryd.ntmps13
      go_wp2
      have hS : Sd4 w [(w.heap.size, .bool n, .string s, .int .i64 (e)), (w.heap.size + 1, .bool n, .string t, .int .i64 (f))] (w.heap.size + 1 + 1) _ := .of (HK.out).drew
      go_region_held3 (fun w' => (((w'.cell? ⟨w.heap.size, 0, none⟩ = some (.bool n) ∧ w'.cell? ⟨w.heap.size, 1, none⟩ = some (.string s) ∧ w'.cell? ⟨w.heap.size, 2, none⟩ = some (.int .i64 (e))) ∧ (w'.cell? ⟨w.heap.size + 1, 0, none⟩ = some (.bool n) ∧ w'.cell? ⟨w.heap.size + 1, 1, none⟩ = some (.string t) ∧ w'.cell? ⟨w.heap.size + 1, 2, none⟩ = some (.int .i64 (f))) ∧ True) ∧ (w'.cell? ⟨w.heap.size + 1 + 1, 0, none⟩ = some (rd w' (w.heap.size + 1 + 1) 0) ∧ w'.cell? ⟨w.heap.size + 1 + 1, 1, none⟩ = some (rd w' (w.heap.size + 1 + 1) 1) ∧ w'.cell? ⟨w.heap.size + 1 + 1, 2, none⟩ = some (rd w' (w.heap.size + 1 + 1) 2) ∧ w'.frozen? ⟨w.heap.size + 1 + 1, 0, none⟩ = false ∧ w'.frozen? ⟨w.heap.size + 1 + 1, 1, none⟩ = false ∧ w'.frozen? ⟨w.heap.size + 1 + 1, 2, none⟩ = false)) ∧ Hid (Kept4 w [(w.heap.size, .bool n, .string s, .int .i64 (e)), (w.heap.size + 1, .bool n, .string t, .int .i64 (f))] (w.heap.size + 1 + 1) w')) (first | exact hS | exact Sd4.store (w0 := w) (L := [(w.heap.size, .bool n, .string s, .int .i64 (e)), (w.heap.size + 1, .bool n, .string t, .int .i64 (f))]) (g := w.heap.size + 1 + 1) hS _ _ _)
        (first
          | (go_at_call 34; refine (ref5At_v _ _ _ _ _ _ _ _ _ (by first | exact HF.out | exact HF'.out) (by omega) hk1 (by first | exact HI.out | exact HJ.out) (by first | exact HX.out | exact HY.out) (Sd4.pw (w0 := w) (L := [(w.heap.size, .bool n, .string s, .int .i64 (e)), (w.heap.size + 1, .bool n, .string t, .int .i64 (f))]) (g := w.heap.size + 1 + 1) (by assumption))).mono ?_; rintro r w1 ⟨rfl, hb⟩; have hS := Sd4.keep (w0 := w) (L := [(w.heap.size, .bool n, .string s, .int .i64 (e)), (w.heap.size + 1, .bool n, .string t, .int .i64 (f))]) (g := w.heap.size + 1 + 1) (by assumption) hb; clear hb))
      rename_i hHeld
      clear hHeld
      obtain ⟨⟨⟨⟨c00, c01, c02⟩, ⟨c10, c11, c12⟩, -⟩, ⟨d0, d1, d2, f0, f1, f2⟩⟩, hk⟩ := hS
      have hk2 := hk.out
      go_wp2
      clear c00 c01 c02 c10 c11 c12 d0 d1 d2 f0 f1 f2
      clear hk
      have hS : Sd4 w [(w.heap.size, .bool n, .string s, .int .i64 (e)), (w.heap.size + 1, .bool n, .string t, .int .i64 (f))] (w.heap.size + 1 + 1) _ := .of (hk2).drew
      go_region_held3 (fun w' => (((w'.cell? ⟨w.heap.size, 0, none⟩ = some (.bool n) ∧ w'.cell? ⟨w.heap.size, 1, none⟩ = some (.string s) ∧ w'.cell? ⟨w.heap.size, 2, none⟩ = some (.int .i64 (e))) ∧ (w'.cell? ⟨w.heap.size + 1, 0, none⟩ = some (.bool n) ∧ w'.cell? ⟨w.heap.size + 1, 1, none⟩ = some (.string t) ∧ w'.cell? ⟨w.heap.size + 1, 2, none⟩ = some (.int .i64 (f))) ∧ True) ∧ (w'.cell? ⟨w.heap.size + 1 + 1, 0, none⟩ = some (rd w' (w.heap.size + 1 + 1) 0) ∧ w'.cell? ⟨w.heap.size + 1 + 1, 1, none⟩ = some (rd w' (w.heap.size + 1 + 1) 1) ∧ w'.cell? ⟨w.heap.size + 1 + 1, 2, none⟩ = some (rd w' (w.heap.size + 1 + 1) 2) ∧ w'.frozen? ⟨w.heap.size + 1 + 1, 0, none⟩ = false ∧ w'.frozen? ⟨w.heap.size + 1 + 1, 1, none⟩ = false ∧ w'.frozen? ⟨w.heap.size + 1 + 1, 2, none⟩ = false)) ∧ Hid (Kept4 w [(w.heap.size, .bool n, .string s, .int .i64 (e)), (w.heap.size + 1, .bool n, .string t, .int .i64 (f))] (w.heap.size + 1 + 1) w')) (first | exact hS | exact Sd4.store (w0 := w) (L := [(w.heap.size, .bool n, .string s, .int .i64 (e)), (w.heap.size + 1, .bool n, .string t, .int .i64 (f))]) (g := w.heap.size + 1 + 1) hS _ _ _)
        (first
          | (go_at_call 36; refine (plus_n X Y _ HXL.out HYL.out).mono ?_; rintro r w1 ⟨rfl, hb⟩; have hS := Sd4.keep (w0 := w) (L := [(w.heap.size, .bool n, .string s, .int .i64 (e)), (w.heap.size + 1, .bool n, .string t, .int .i64 (f))]) (g := w.heap.size + 1 + 1) (by assumption) hb; clear hb)
          | (go_at_call 39; refine (ref5Make_c 30000 _ _ _ _ HNL.out (by omega) (by omega) (by omega) (Sd4.pw (w0 := w) (L := [(w.heap.size, .bool n, .string s, .int .i64 (e)), (w.heap.size + 1, .bool n, .string t, .int .i64 (f))]) (g := w.heap.size + 1 + 1) (by assumption))).mono ?_; rintro r w1 ⟨rfl, hb⟩; have hS := Sd4.keep (w0 := w) (L := [(w.heap.size, .bool n, .string s, .int .i64 (e)), (w.heap.size + 1, .bool n, .string t, .int .i64 (f))]) (g := w.heap.size + 1 + 1) (by assumption) hb; clear hb)
          | (go_at_call 41; refine (ref5Plain_c _ _ _ _).mono ?_; rintro r w1 ⟨rfl, hb⟩; have hS := Sd4.keep (w0 := w) (L := [(w.heap.size, .bool n, .string s, .int .i64 (e)), (w.heap.size + 1, .bool n, .string t, .int .i64 (f))]) (g := w.heap.size + 1 + 1) (by assumption) hb; clear hb))
      rename_i hHeld
      clear hHeld
      obtain ⟨⟨-, ⟨d0, d1, d2, f0, f1, f2⟩⟩, hk⟩ := hS
      go_wp2
      exact bodyPost_ret (by simp [results, Tryd.results13, go_sem, d0, d1, d2] <;> rfl) rfl
        ⟨rfl, (hk.out.store _ _ _).1.2.1⟩
    · by_cases hlt : Y ≤ X
      · have hnb : (n == m) = false := by rwa [beq_eq_false_iff_ne]
        rw [sv_sub_ge hnm hlt, ← pneg_sv, zstr_sv, zexp_sv]
        have HNL := Lib.hid (show (decs (X - Y)).length ≤ 4990 by have := decs_length_le (Nat.sub_le X Y); omega)
        have HLT := Lib.hid hlt
        have HLS := Lib.hid (fun w => (less_c (strD (decs X)) (strD (decs Y)) X Y w (isD_decs X) (isD_decs Y)))
        rw [decide_eq_false (by omega)] at HLS
        clear hnm hlt
        have HXL := Lib.hid (show (decs X).length ≤ 10000 by omega)
        have HYL := Lib.hid (show (decs Y).length ≤ 10000 by omega)
        clear hx hy
        have HK := Lib.hid (kept4_two w (.bool n) (.string s) (.int .i64 e) (.bool m) (.string t) (.int .i64 f) (.bool false) (.string ⟨#[]⟩) (.int .i64 0) 23 23 hP)
        clear hP
        go_enter Tryd.func13, Tryd.ntmps13
        go_wp2
        have hS : Sd4 w [(w.heap.size, .bool n, .string s, .int .i64 (e)), (w.heap.size + 1, .bool m, .string t, .int .i64 (f))] (w.heap.size + 1 + 1) _ := .of (HK.out).drew
        go_region_held3 (fun w' => (((w'.cell? ⟨w.heap.size, 0, none⟩ = some (.bool n) ∧ w'.cell? ⟨w.heap.size, 1, none⟩ = some (.string s) ∧ w'.cell? ⟨w.heap.size, 2, none⟩ = some (.int .i64 (e))) ∧ (w'.cell? ⟨w.heap.size + 1, 0, none⟩ = some (.bool m) ∧ w'.cell? ⟨w.heap.size + 1, 1, none⟩ = some (.string t) ∧ w'.cell? ⟨w.heap.size + 1, 2, none⟩ = some (.int .i64 (f))) ∧ True) ∧ (w'.cell? ⟨w.heap.size + 1 + 1, 0, none⟩ = some (rd w' (w.heap.size + 1 + 1) 0) ∧ w'.cell? ⟨w.heap.size + 1 + 1, 1, none⟩ = some (rd w' (w.heap.size + 1 + 1) 1) ∧ w'.cell? ⟨w.heap.size + 1 + 1, 2, none⟩ = some (rd w' (w.heap.size + 1 + 1) 2) ∧ w'.frozen? ⟨w.heap.size + 1 + 1, 0, none⟩ = false ∧ w'.frozen? ⟨w.heap.size + 1 + 1, 1, none⟩ = false ∧ w'.frozen? ⟨w.heap.size + 1 + 1, 2, none⟩ = false)) ∧ Hid (Kept4 w [(w.heap.size, .bool n, .string s, .int .i64 (e)), (w.heap.size + 1, .bool m, .string t, .int .i64 (f))] (w.heap.size + 1 + 1) w')) (first | exact hS | exact Sd4.store (w0 := w) (L := [(w.heap.size, .bool n, .string s, .int .i64 (e)), (w.heap.size + 1, .bool m, .string t, .int .i64 (f))]) (g := w.heap.size + 1 + 1) hS _ _ _)
          (first
            | (go_at_call 34; refine (ref5At_v _ _ _ _ _ _ _ _ _ (by first | exact HF.out | exact HF'.out) (by omega) hk1 (by first | exact HI.out | exact HJ.out) (by first | exact HX.out | exact HY.out) (Sd4.pw (w0 := w) (L := [(w.heap.size, .bool n, .string s, .int .i64 (e)), (w.heap.size + 1, .bool m, .string t, .int .i64 (f))]) (g := w.heap.size + 1 + 1) (by assumption))).mono ?_; rintro r w1 ⟨rfl, hb⟩; have hS := Sd4.keep (w0 := w) (L := [(w.heap.size, .bool n, .string s, .int .i64 (e)), (w.heap.size + 1, .bool m, .string t, .int .i64 (f))]) (g := w.heap.size + 1 + 1) (by assumption) hb; clear hb))
        rename_i hHeld
        clear hHeld
        obtain ⟨⟨⟨⟨c00, c01, c02⟩, ⟨c10, c11, c12⟩, -⟩, ⟨d0, d1, d2, f0, f1, f2⟩⟩, hk⟩ := hS
        have hk2 := hk.out
        go_wp2_with fail
        refine (HLS.out _).mono ?_
        rintro r w5 ⟨rfl, rfl⟩
        go_wp2
        clear c00 c01 c02 c10 c11 c12 d0 d1 d2 f0 f1 f2
        clear hk
        have hS : Sd4 w [(w.heap.size, .bool n, .string s, .int .i64 (e)), (w.heap.size + 1, .bool m, .string t, .int .i64 (f))] (w.heap.size + 1 + 1) _ := .of (hk2).drew
        go_region_held3 (fun w' => (((w'.cell? ⟨w.heap.size, 0, none⟩ = some (.bool n) ∧ w'.cell? ⟨w.heap.size, 1, none⟩ = some (.string s) ∧ w'.cell? ⟨w.heap.size, 2, none⟩ = some (.int .i64 (e))) ∧ (w'.cell? ⟨w.heap.size + 1, 0, none⟩ = some (.bool m) ∧ w'.cell? ⟨w.heap.size + 1, 1, none⟩ = some (.string t) ∧ w'.cell? ⟨w.heap.size + 1, 2, none⟩ = some (.int .i64 (f))) ∧ True) ∧ (w'.cell? ⟨w.heap.size + 1 + 1, 0, none⟩ = some (rd w' (w.heap.size + 1 + 1) 0) ∧ w'.cell? ⟨w.heap.size + 1 + 1, 1, none⟩ = some (rd w' (w.heap.size + 1 + 1) 1) ∧ w'.cell? ⟨w.heap.size + 1 + 1, 2, none⟩ = some (rd w' (w.heap.size + 1 + 1) 2) ∧ w'.frozen? ⟨w.heap.size + 1 + 1, 0, none⟩ = false ∧ w'.frozen? ⟨w.heap.size + 1 + 1, 1, none⟩ = false ∧ w'.frozen? ⟨w.heap.size + 1 + 1, 2, none⟩ = false)) ∧ Hid (Kept4 w [(w.heap.size, .bool n, .string s, .int .i64 (e)), (w.heap.size + 1, .bool m, .string t, .int .i64 (f))] (w.heap.size + 1 + 1) w')) (first | exact hS | exact Sd4.store (w0 := w) (L := [(w.heap.size, .bool n, .string s, .int .i64 (e)), (w.heap.size + 1, .bool m, .string t, .int .i64 (f))]) (g := w.heap.size + 1 + 1) hS _ _ _)
          (first
            | (go_at_call 42; refine (minus_n X Y _ HXL.out HLT.out).mono ?_; rintro r w1 ⟨rfl, hb⟩; have hS := Sd4.keep (w0 := w) (L := [(w.heap.size, .bool n, .string s, .int .i64 (e)), (w.heap.size + 1, .bool m, .string t, .int .i64 (f))]) (g := w.heap.size + 1 + 1) (by assumption) hb; clear hb)
            | (go_at_call 39; refine (ref5Make_c 30000 _ _ _ _ HNL.out (by omega) (by omega) (by omega) (Sd4.pw (w0 := w) (L := [(w.heap.size, .bool n, .string s, .int .i64 (e)), (w.heap.size + 1, .bool m, .string t, .int .i64 (f))]) (g := w.heap.size + 1 + 1) (by assumption))).mono ?_; rintro r w1 ⟨rfl, hb⟩; have hS := Sd4.keep (w0 := w) (L := [(w.heap.size, .bool n, .string s, .int .i64 (e)), (w.heap.size + 1, .bool m, .string t, .int .i64 (f))]) (g := w.heap.size + 1 + 1) (by assumption) hb; clear hb)
            | (go_at_call 41; refine (ref5Plain_c _ _ _ _).mono ?_; rintro r w1 ⟨rfl, hb⟩; have hS := Sd4.keep (w0 := w) (L := [(w.heap.size, .bool n, .string s, .int .i64 (e)), (w.heap.size + 1, .bool m, .string t, .int .i64 (f))]) (g := w.heap.size + 1 + 1) (by assumption) hb; clear hb))
        rename_i hHeld
        clear hHeld
        obtain ⟨⟨-, ⟨d0, d1, d2, f0, f1, f2⟩⟩, hk⟩ := hS
        go_wp2
        exact bodyPost_ret (by simp [results, Tryd.results13, go_sem, d0, d1, d2] <;> rfl) rfl
          ⟨rfl, (hk.out.store _ _ _).1.2.1⟩
      · rw [Nat.not_le] at hlt
        have hnb : (n == m) = false := by rwa [beq_eq_false_iff_ne]
        rw [sv_sub_lt hnm hlt, ← pneg_sv, zstr_sv, zexp_sv]
        have HNL := Lib.hid (show (decs (Y - X)).length ≤ 4990 by have := decs_length_le (Nat.sub_le Y X); omega)
        have HLT := Lib.hid (Nat.le_of_lt hlt)
        have HLS := Lib.hid (fun w => (less_c (strD (decs X)) (strD (decs Y)) X Y w (isD_decs X) (isD_decs Y)))
        rw [decide_eq_true hlt] at HLS
        clear hnm hlt
        have HXL := Lib.hid (show (decs X).length ≤ 10000 by omega)
        have HYL := Lib.hid (show (decs Y).length ≤ 10000 by omega)
        clear hx hy
        have HK := Lib.hid (kept4_two w (.bool n) (.string s) (.int .i64 e) (.bool m) (.string t) (.int .i64 f) (.bool false) (.string ⟨#[]⟩) (.int .i64 0) 23 23 hP)
        clear hP
        go_enter Tryd.func13, Tryd.ntmps13
        go_wp2
        have hS : Sd4 w [(w.heap.size, .bool n, .string s, .int .i64 (e)), (w.heap.size + 1, .bool m, .string t, .int .i64 (f))] (w.heap.size + 1 + 1) _ := .of (HK.out).drew
        go_region_held3 (fun w' => (((w'.cell? ⟨w.heap.size, 0, none⟩ = some (.bool n) ∧ w'.cell? ⟨w.heap.size, 1, none⟩ = some (.string s) ∧ w'.cell? ⟨w.heap.size, 2, none⟩ = some (.int .i64 (e))) ∧ (w'.cell? ⟨w.heap.size + 1, 0, none⟩ = some (.bool m) ∧ w'.cell? ⟨w.heap.size + 1, 1, none⟩ = some (.string t) ∧ w'.cell? ⟨w.heap.size + 1, 2, none⟩ = some (.int .i64 (f))) ∧ True) ∧ (w'.cell? ⟨w.heap.size + 1 + 1, 0, none⟩ = some (rd w' (w.heap.size + 1 + 1) 0) ∧ w'.cell? ⟨w.heap.size + 1 + 1, 1, none⟩ = some (rd w' (w.heap.size + 1 + 1) 1) ∧ w'.cell? ⟨w.heap.size + 1 + 1, 2, none⟩ = some (rd w' (w.heap.size + 1 + 1) 2) ∧ w'.frozen? ⟨w.heap.size + 1 + 1, 0, none⟩ = false ∧ w'.frozen? ⟨w.heap.size + 1 + 1, 1, none⟩ = false ∧ w'.frozen? ⟨w.heap.size + 1 + 1, 2, none⟩ = false)) ∧ Hid (Kept4 w [(w.heap.size, .bool n, .string s, .int .i64 (e)), (w.heap.size + 1, .bool m, .string t, .int .i64 (f))] (w.heap.size + 1 + 1) w')) (first | exact hS | exact Sd4.store (w0 := w) (L := [(w.heap.size, .bool n, .string s, .int .i64 (e)), (w.heap.size + 1, .bool m, .string t, .int .i64 (f))]) (g := w.heap.size + 1 + 1) hS _ _ _)
          (first
            | (go_at_call 34; refine (ref5At_v _ _ _ _ _ _ _ _ _ (by first | exact HF.out | exact HF'.out) (by omega) hk1 (by first | exact HI.out | exact HJ.out) (by first | exact HX.out | exact HY.out) (Sd4.pw (w0 := w) (L := [(w.heap.size, .bool n, .string s, .int .i64 (e)), (w.heap.size + 1, .bool m, .string t, .int .i64 (f))]) (g := w.heap.size + 1 + 1) (by assumption))).mono ?_; rintro r w1 ⟨rfl, hb⟩; have hS := Sd4.keep (w0 := w) (L := [(w.heap.size, .bool n, .string s, .int .i64 (e)), (w.heap.size + 1, .bool m, .string t, .int .i64 (f))]) (g := w.heap.size + 1 + 1) (by assumption) hb; clear hb))
        rename_i hHeld
        clear hHeld
        obtain ⟨⟨⟨⟨c00, c01, c02⟩, ⟨c10, c11, c12⟩, -⟩, ⟨d0, d1, d2, f0, f1, f2⟩⟩, hk⟩ := hS
        have hk2 := hk.out
        go_wp2_with fail
        refine (HLS.out _).mono ?_
        rintro r w5 ⟨rfl, rfl⟩
        go_wp2
        clear c00 c01 c02 c10 c11 c12 d0 d1 d2 f0 f1 f2
        clear hk
        have hS : Sd4 w [(w.heap.size, .bool n, .string s, .int .i64 (e)), (w.heap.size + 1, .bool m, .string t, .int .i64 (f))] (w.heap.size + 1 + 1) _ := .of (hk2).drew
        go_region_held3 (fun w' => (((w'.cell? ⟨w.heap.size, 0, none⟩ = some (.bool n) ∧ w'.cell? ⟨w.heap.size, 1, none⟩ = some (.string s) ∧ w'.cell? ⟨w.heap.size, 2, none⟩ = some (.int .i64 (e))) ∧ (w'.cell? ⟨w.heap.size + 1, 0, none⟩ = some (.bool m) ∧ w'.cell? ⟨w.heap.size + 1, 1, none⟩ = some (.string t) ∧ w'.cell? ⟨w.heap.size + 1, 2, none⟩ = some (.int .i64 (f))) ∧ True) ∧ (w'.cell? ⟨w.heap.size + 1 + 1, 0, none⟩ = some (rd w' (w.heap.size + 1 + 1) 0) ∧ w'.cell? ⟨w.heap.size + 1 + 1, 1, none⟩ = some (rd w' (w.heap.size + 1 + 1) 1) ∧ w'.cell? ⟨w.heap.size + 1 + 1, 2, none⟩ = some (rd w' (w.heap.size + 1 + 1) 2) ∧ w'.frozen? ⟨w.heap.size + 1 + 1, 0, none⟩ = false ∧ w'.frozen? ⟨w.heap.size + 1 + 1, 1, none⟩ = false ∧ w'.frozen? ⟨w.heap.size + 1 + 1, 2, none⟩ = false)) ∧ Hid (Kept4 w [(w.heap.size, .bool n, .string s, .int .i64 (e)), (w.heap.size + 1, .bool m, .string t, .int .i64 (f))] (w.heap.size + 1 + 1) w')) (first | exact hS | exact Sd4.store (w0 := w) (L := [(w.heap.size, .bool n, .string s, .int .i64 (e)), (w.heap.size + 1, .bool m, .string t, .int .i64 (f))]) (g := w.heap.size + 1 + 1) hS _ _ _)
          (first
            | (go_at_call 42; refine (minus_n Y X _ HYL.out HLT.out).mono ?_; rintro r w1 ⟨rfl, hb⟩; have hS := Sd4.keep (w0 := w) (L := [(w.heap.size, .bool n, .string s, .int .i64 (e)), (w.heap.size + 1, .bool m, .string t, .int .i64 (f))]) (g := w.heap.size + 1 + 1) (by assumption) hb; clear hb)
            | (go_at_call 39; refine (ref5Make_c 30000 _ _ _ _ HNL.out (by omega) (by omega) (by omega) (Sd4.pw (w0 := w) (L := [(w.heap.size, .bool n, .string s, .int .i64 (e)), (w.heap.size + 1, .bool m, .string t, .int .i64 (f))]) (g := w.heap.size + 1 + 1) (by assumption))).mono ?_; rintro r w1 ⟨rfl, hb⟩; have hS := Sd4.keep (w0 := w) (L := [(w.heap.size, .bool n, .string s, .int .i64 (e)), (w.heap.size + 1, .bool m, .string t, .int .i64 (f))]) (g := w.heap.size + 1 + 1) (by assumption) hb; clear hb)
            | (go_at_call 41; refine (ref5Plain_c _ _ _ _).mono ?_; rintro r w1 ⟨rfl, hb⟩; have hS := Sd4.keep (w0 := w) (L := [(w.heap.size, .bool n, .string s, .int .i64 (e)), (w.heap.size + 1, .bool m, .string t, .int .i64 (f))]) (g := w.heap.size + 1 + 1) (by assumption) hb; clear hb))
        rename_i hHeld
        clear hHeld
        obtain ⟨⟨-, ⟨d0, d1, d2, f0, f1, f2⟩⟩, hk⟩ := hS
        go_wp2
        exact bodyPost_ret (by simp [results, Tryd.results13, go_sem, d0, d1, d2] <;> rfl) rfl
          ⟨rfl, (hk.out.store _ _ _).1.2.1⟩

theorem strip_b {B : Nat} {s : ByteArray} {e : Int} {N : Nat} (h : DA B s e N) (w : World) :
    Calls Tryd.prog 31 #[.string s] w fun r w' => r = .returned (.string (strD (decs N))) ∧ Below w.heap.size w w' :=
  (strip_n h w).mono fun r w' hh => ⟨hh.1, by obtain ⟨-, rfl⟩ := hh; exact Below.refl _ _⟩
theorem refSum_d {k : Int} {n m : Bool} {s t : ByteArray} {e f V W Z : Int} {w : World} (h : DV k n s e V) (h' : DV k m t f W) (hZ : V + W = Z) (hP : Pw w) :
    Calls Tryd.prog 13 #[.agg #[.bool n, .string s, .int .i64 e], .agg #[.bool m, .string t, .int .i64 f]] w fun r w' => r = .returned (.agg #[.bool (zneg Z), .string (zstr Z), .int .i64 (zexp Z k)]) ∧ Below w.heap.size w w' := by
  obtain ⟨⟨N, hd, rfl⟩, h1, h2, h3⟩ := h
  obtain ⟨⟨M, hd', rfl⟩, h1', h2', h3'⟩ := h'
  subst hZ
  obtain ⟨p, i, j, hp, hi, hj, hkp, ⟨e1, e2, e3⟩, hi2, hj2⟩ := add_min (n := n) (m := m) (N := N) (M := M) h1 h1'
  have := ref5Sum0_c 30000 n m s t e f N M _ _ p i j w hd hd' hp hi hj rfl rfl (by omega) (by rw [hi2]; exact Nat.le_trans (decs_atE (n := n) hkp (by omega)) (by omega)) (by rw [hj2]; exact Nat.le_trans (decs_atE (n := m) hkp (by omega)) (by omega)) hP
  rwa [e1, e2, e3] at this
end Go.Proofs.YtekanlcfgfllcaaDoor
/- Gd6 -/
/-
  Gd6: which decimals layer 6's laws take (good), for a list of decimals.
-/
namespace Go.Proofs.YtekanlcfgfllcaaDoor
open Go.RowKit
theorem Kept3.grow {w0 w : World} {L : List (Nat × Value × Value × Value)} (h : Kept3 w0 L w) (x y z : Value) (t : TypeId) : Kept3 w0 (L ++ [(w.heap.size, x, y, z)]) (w.alloc (.cells #[x, y, z] t)) := by
  have hk := h.keep ((Below.refl _ _).alloc (Nat.le_refl _) (.cells #[x, y, z] t))
  refine ⟨hk.1, hk.2.1, fun u hu => ?_⟩
  rcases List.mem_append.1 hu with hu | hu
  · exact hk.2.2 u hu
  · simp only [List.mem_cons, List.not_mem_nil, or_false] at hu
    subst hu
    exact Box3.new w x y z t
/-- Good, and of at most so many digits. -/
def fineD (k : Nat) (s : ByteArray) (e : Int) : Bool := goodB s e && decide (s.size ≤ k)
theorem fineD_good {k : Nat} {s : ByteArray} {e : Int} (h : fineD k s e = true) : goodB s e = true ∧ s.size ≤ k := by
  simpa [fineD] using h
def fineT (k : Nat) (t : Bool × ByteArray × Int) : Bool := fineD k t.2.1 t.2.2
end Go.Proofs.YtekanlcfgfllcaaDoor
/- An6 -/
/-
  An6: layer 6's answers; decimals of its laws by value.
-/
namespace Go.Proofs.YtekanlcfgfllcaaDoor
open Go.RowKit
theorem zx75 : zneg 75 = false ∧ zstr 75 = ⟨#[55, 53]⟩ ∧ zexp 75 (-2) = -2 := by
  refine ⟨rfl, ?_, ?_⟩
  · rw [zstr, nstr, nq_none (by decide)]
    rw [show ((75 : Int).natAbs) = 75 by rfl, decs_snoc (by omega), decs_snoc (show 75 / 10 ≠ 0 by omega), decs_zero]; rfl
  · rw [zexp, nexp, if_neg (by decide), tz10_none (by decide)]; rfl
theorem zx625 : zneg 625 = false ∧ zstr 625 = ⟨#[54, 50, 53]⟩ ∧ zexp 625 (-4) = -4 := by
  refine ⟨rfl, ?_, ?_⟩
  · rw [zstr, nstr, nq_none (by decide)]
    rw [show ((625 : Int).natAbs) = 625 by rfl, decs_snoc (by omega), decs_snoc (show 625 / 10 ≠ 0 by omega), decs_snoc (show 625 / 10 / 10 ≠ 0 by omega), decs_zero]; rfl
  · rw [zexp, nexp, if_neg (by decide), tz10_none (by decide)]; rfl
theorem zx25 : nstr 25 = ⟨#[50, 53]⟩ ∧ nexp 25 (-2 + 2) = 0 := by
  refine ⟨?_, ?_⟩
  · rw [nstr, nq_none (by decide), decs_snoc (by omega), decs_snoc (show 25 / 10 ≠ 0 by omega), decs_zero]; rfl
  · rw [nexp, if_neg (by decide), tz10_none (by decide)]; rfl
theorem da25 : DA 1000 ⟨#[50, 53]⟩ (-2) 25 := ⟨⟨[2, 5], ⟨rfl, by decide⟩, rfl⟩, by decide, by decide, by omega, by omega⟩
theorem decs_pow_le (N j L : Nat) (h : (decs N).length ≤ L) : (decs (N * 10 ^ j)).length ≤ L + j := by
  refine decs_len ?_
  rw [Nat.pow_add]
  exact Nat.mul_lt_mul_of_pos_right (Nat.lt_of_lt_of_le (lt_pow_decs N) (Nat.pow_le_pow_right (by omega) h)) (pow_pos10 j)
theorem atE_len {n : Bool} {N : Nat} {e k : Int} {L j : Nat} (h : (decs N).length ≤ L) (hj : (e - k).toNat ≤ j) : (decs (atE n N e k).natAbs).length ≤ L + j := by
  rw [atE, sv_natAbs]
  exact Nat.le_trans (decs_pow_le N _ L h) (by omega)
theorem dv1 : DV (-2) false ⟨#[49]⟩ 0 100 := by
  have h := DV.of_da (n := false) (k := -2) ex_one (by omega) (by omega) (by omega) (Nat.le_trans (atE_len (L := 1) (j := 2) (by rw [decs_snoc (by omega), decs_zero]; decide) (by omega)) (by omega))
  exact h
theorem dv25 : DV (-2) false ⟨#[50, 53]⟩ (-2) 25 := by
  have h := DV.of_da (n := false) (k := -2) da25 (by omega) (by omega) (by omega) (Nat.le_trans (atE_len (L := 2) (j := 0) (by rw [decs_snoc (by omega), decs_snoc (show 25 / 10 ≠ 0 by omega), decs_zero]; decide) (by omega)) (by omega))
  exact h
theorem small_len {Z : Int} {k : Nat} (h : Z.natAbs < 10 ^ k) (hk : k ≤ 4900) : (decs Z.natAbs).length ≤ 4900 := Nat.le_trans (decs_len h) hk
/-- A decimal of few digits, by value; and how long the value is. -/
theorem DV.of_fine {m : Nat} {n : Bool} {s : ByteArray} {e k : Int} (h : fineD m s e = true) (hm : m ≤ 1000) (hk : k ≤ e) (hk2 : -1000 ≤ k) :
    DV k n s e (atE n (dval (bdigs s)) e k) ∧ (decs (atE n (dval (bdigs s)) e k).natAbs).length ≤ m + (e - k).toNat := by
  obtain ⟨hg, hs⟩ := fineD_good h
  have hd := DA.of_good hg
  have hl : (decs (dval (bdigs s))).length ≤ m := by
    obtain ⟨ds, hds, hv⟩ := hd.isD
    rw [← hv]
    have := decs_dval_length ds hds.2
    have := hds.size
    omega
  have hlo := hd.lo
  have hhi := hd.hi
  have hx := atE_len (n := n) (e := e) (k := k) (j := (e - k).toNat) hl (Nat.le_refl _)
  exact ⟨DV.of_da hd (by omega) hk (by omega) (by omega), hx⟩
theorem DV.fine {m : Nat} (n : Bool) {s : ByteArray} {e : Int} (h : fineD m s e = true) (hm : m ≤ 1000) : ∃ V, DV (-1000) n s e V ∧ (decs V.natAbs).length ≤ m + 2000 := by
  have hd := DA.of_good (fineD_good h).1
  have hlo := hd.lo
  have hhi := hd.hi
  obtain ⟨h1, h2⟩ := DV.of_fine (n := n) (k := -1000) h hm (by omega) (by omega)
  exact ⟨_, h1, by omega⟩
theorem DV.fine300 {m : Nat} (n : Bool) {s : ByteArray} {e : Int} (h : fineD m s e = true) (hm : m ≤ 1000) (h1 : -300 ≤ e) (h2 : e ≤ 300) : ∃ V, DV (-300) n s e V ∧ (decs V.natAbs).length ≤ m + 600 := by
  obtain ⟨h3, h4⟩ := DV.of_fine (n := n) (k := -300) h hm h1 (by omega)
  exact ⟨_, h3, by omega⟩
theorem len_add {A C : Int} {L : Nat} (h1 : (decs A.natAbs).length ≤ L) (h2 : (decs C.natAbs).length ≤ L) : (decs (A + C).natAbs).length ≤ L + 1 := by
  refine decs_len ?_
  exact natAbs_add_lt (Nat.lt_of_lt_of_le (lt_pow_decs _) (Nat.pow_le_pow_right (by omega) h1)) (Nat.lt_of_lt_of_le (lt_pow_decs _) (Nat.pow_le_pow_right (by omega) h2))
theorem len_sub {A C : Int} {L : Nat} (h1 : (decs A.natAbs).length ≤ L) (h2 : (decs C.natAbs).length ≤ L) : (decs (A - C).natAbs).length ≤ L + 1 := by
  rw [Int.sub_eq_add_neg]; exact len_add h1 (by rwa [Int.natAbs_neg])
theorem len_mul {A C : Int} {L M : Nat} (h1 : (decs A.natAbs).length ≤ L) (h2 : (decs C.natAbs).length ≤ M) : (decs (A * C).natAbs).length ≤ L + M := by
  rw [Int.natAbs_mul]; exact decs_mul h1 h2
theorem z_zero (k : Int) : zneg 0 = false ∧ zstr 0 = ⟨#[48]⟩ ∧ zexp 0 k = 0 := ⟨rfl, nstr_zero, rfl⟩
theorem cmp_dv {k : Int} {n m : Bool} {s t : ByteArray} {e f V W : Int} (h : DV k n s e V) (h' : DV k m t f W) : ∃ N M, DA 30000 s e N ∧ DA 30000 t f M ∧ cmpV n N e m M f = cmpZ V W := by
  obtain ⟨⟨N, hd, rfl⟩, h1, -, -⟩ := h
  obtain ⟨⟨M, hd', rfl⟩, h1', -, -⟩ := h'
  exact ⟨N, M, hd, hd', cmpV_atE n N e m M f k h1 h1'⟩
theorem refCmp_d {k : Int} {n m : Bool} {s t : ByteArray} {e f V W C : Int} {w : World} (h : DV k n s e V) (h' : DV k m t f W) (hC : cmpZ V W = C) (hP : Pw w) :
    Calls Tryd.prog 15 #[.agg #[.bool n, .string s, .int .i64 e], .agg #[.bool m, .string t, .int .i64 f]] w fun r w' => r = .returned (.int .i64 C) ∧ Below w.heap.size w w' := by
  obtain ⟨N, M, hd, hd', hc⟩ := cmp_dv h h'
  rw [← hC, ← hc]
  exact ref5Cmp_c 30000 n m s t e f N M w hd hd' (by omega) hP

end Go.Proofs.YtekanlcfgfllcaaDoor
