/-
  KK: Si9, Sm9, An9.
-/
import Derived.Test.YtekanlcfgfllcaaDoorKJ
/- Si9 -/
/-
  Si9: layer 9: the contracts of sig, good, answers.
-/
set_option maxRecDepth 100000
namespace Go.Proofs.YtekanlcfgfllcaaDoor
open Go.RowKit
theorem dtop_same {N X : Nat} {e k : Int} (h1 : nstr N = nstr X) (h2 : nexp N e = nexp X k) : dtop N e = dtop X k := by
  rw [← top_all, ← top_all, h1, h2]
theorem DU.top {k : Int} {s : ByteArray} {e : Int} {X : Nat} (h : DU k s e X) : -20000 ≤ dtop X k ∧ dtop X k ≤ 30000 := by
  obtain ⟨N, hd, hX, h1, h2⟩ := h.norm
  have h3 := h.lo
  have h4 := h.len
  have h5 := h.le
  have h6 := hd.hi
  unfold dtop
  split <;> omega
theorem DU.top_ge {k : Int} {s : ByteArray} {e : Int} {X : Nat} (h : DU k s e X) (h0 : X ≠ 0) : e ≤ dtop X k := by
  obtain ⟨N, hd, hX, h1, h2⟩ := h.norm
  have hN : N ≠ 0 := by rintro rfl; exact h0 (by rw [← hX, Nat.zero_mul])
  rw [← dtop_same h1 h2, dtop, if_neg hN]
  have := decs_pos hN
  omega
theorem decNorm_u {n : Bool} {s : ByteArray} {e k : Int} {X : Nat} {S : ByteArray} {E : Int} {w : World} (h : DU k s e X) (hv : nstr X = S ∧ nexp X k = E) (hP : Pw w) :
    Calls Tryd.prog 23 #[.agg #[.bool n, .string s, .int .i64 e]] w fun r w' => r = .returned (.agg #[.bool n, .string S, .int .i64 E]) ∧ Below w.heap.size w w' := by
  obtain ⟨N, hd, -, h1, h2⟩ := h.norm
  rw [← hv.1, ← hv.2, ← h1, ← h2]
  exact decNorm_c 20000 n s e N w hd (by omega) hP

/-- May a decimal be handed in? -/
def g9 (s : ByteArray) (e : Int) : Bool := goodB s e && (decide (s.size ≤ 100) && (decide (-300 ≤ e) && decide (e ≤ 300)))
theorem g9_true {s : ByteArray} {e : Int} (h : g9 s e = true) : fineD 100 s e = true ∧ -300 ≤ e ∧ e ≤ 300 := by
  simp only [g9, Bool.and_eq_true, decide_eq_true_eq] at h
  obtain ⟨h1, h2, h5, h6⟩ := h
  exact ⟨by simp only [fineD, Bool.and_eq_true, decide_eq_true_eq]; exact ⟨h1, h2⟩, h5, h6⟩
end Go.Proofs.YtekanlcfgfllcaaDoor
/- Sm9 -/
/-
  Sm9: plain facts of layer 9: rounding to so many digits, whatever the value.
-/
set_option maxRecDepth 100000
namespace Go.Proofs.YtekanlcfgfllcaaDoor
open Go.RowKit
/-- The step of rounding to n digits. -/
def SgW (X n W : Nat) : Prop := X ≠ 0 → n ≤ (decs X).length ∧ W = 10 ^ ((decs X).length - n)
theorem sgW_of {X n : Nat} {k p : Int} (hp : dtop X k - n + 1 = p) (hn : X ≠ 0 → n ≤ (decs X).length) : SgW X n (10 ^ (p - k).toNat) := by
  intro h0
  refine ⟨hn h0, ?_⟩
  have h1 := hn h0
  rw [dtop, if_neg h0] at hp
  rw [show (p - k).toNat = (decs X).length - n by omega]
theorem sgW_size {X n W : Nat} (m : Int) (neg : Bool) (hn : 1 ≤ n) (h : SgW X n W) : (nstr (rndN m neg X W)).size ≤ n := by
  by_cases h0 : X = 0
  · subst h0; rw [rndN_zero, nstr_zero]; exact hn
  · obtain ⟨h1, rfl⟩ := h h0
    have h2 := sig_count m neg hn h1
    by_cases hR : rndN m neg X (10 ^ ((decs X).length - n)) = 0
    · rw [hR, nstr_zero]; exact hn
    · rw [nstr_of hR, strD_size]; exact h2
theorem sgW_fits {X n W : Nat} (hn : 1 ≤ n) (h : SgW X n W) : X % W = 0 ↔ (nstr X).size ≤ n := by
  by_cases h0 : X = 0
  · subst h0
    rw [nstr_zero, Nat.zero_mod]
    exact ⟨fun _ => hn, fun _ => rfl⟩
  · obtain ⟨h1, rfl⟩ := h h0
    have h2 := decs_len_tz h0
    rw [fits_iff, nstr_of h0, strD_size]
    constructor
    · rintro (h3 | h3)
      · exact absurd h3 h0
      · omega
    · intro h3
      exact .inr (by omega)
theorem sgW_mono {X Y n V W : Nat} (m : Int) {a b : Bool} (hn : 1 ≤ n) (hX : SgW X n V) (hY : SgW Y n W) (h : sv a X ≤ sv b Y) : sv a (rndN m a X V) ≤ sv b (rndN m b Y W) := by
  cases a <;> cases b
  · by_cases h0 : X = 0
    · subst h0; rw [rndN_zero]; simp only [sv, Bool.false_eq_true, if_false]; omega
    · have h1 : X ≤ Y := by simp [sv] at h; omega
      obtain ⟨h2, rfl⟩ := hX h0
      obtain ⟨-, rfl⟩ := hY (by omega)
      have := sig_mono m false h0 hn h2 h1
      simp only [sv, Bool.false_eq_true, if_false]; omega
  · have h1 : X = 0 ∧ Y = 0 := by simp [sv] at h; omega
    rw [h1.1, h1.2, rndN_zero, rndN_zero]; simp [sv]
  · simp only [sv, Bool.false_eq_true, if_false, if_true]; omega
  · by_cases h0 : Y = 0
    · subst h0; rw [rndN_zero]; simp only [sv, if_true]; omega
    · have h1 : Y ≤ X := by simp [sv] at h; omega
      obtain ⟨h2, rfl⟩ := hY h0
      obtain ⟨-, rfl⟩ := hX (by omega)
      have := sig_mono m true h0 hn h2 h1
      simp only [sv, if_true]; omega
theorem sgW_ge {X n W : Nat} (m : Int) (neg : Bool) (hn : 1 ≤ n) (h : SgW X n W) (h0 : X ≠ 0) :
    rndN m neg X W ≠ 0 ∧ (decs X).length ≤ (decs (rndN m neg X W)).length ∧ (decs (rndN m neg X W)).length ≤ (decs X).length + 1 := by
  obtain ⟨h1, rfl⟩ := h h0
  have h2 := sig_ge m neg h0 hn h1
  have h3 := pow_pos10 ((decs X).length - 1)
  exact ⟨by omega, sig_len m neg h0 hn h1⟩
theorem sgW_again {X n W V : Nat} (m m' : Int) (neg neg' : Bool) (hn : 1 ≤ n) (h : SgW X n W) (h2 : SgW (rndN m neg X W) n V) : rndN m' neg' (rndN m neg X W) V = rndN m neg X W := by
  by_cases h0 : X = 0
  · subst h0; rw [rndN_zero, rndN_zero]
  · have hR := (sgW_ge m neg hn h h0).1
    obtain ⟨h1, rfl⟩ := h h0
    obtain ⟨-, rfl⟩ := h2 hR
    exact sig_again m m' neg neg' h0 hn h1
theorem sgW_top {X n W : Nat} (m : Int) (neg : Bool) (k : Int) (hn : 1 ≤ n) (h : SgW X n W) : dtop X k ≤ dtop (rndN m neg X W) k ∧ dtop (rndN m neg X W) k ≤ dtop X k + 1 := by
  by_cases h0 : X = 0
  · subst h0; rw [rndN_zero]; omega
  · obtain ⟨h1, h2, h3⟩ := sgW_ge m neg hn h h0
    rw [dtop, dtop, if_neg h0, if_neg h1]
    omega
theorem decs_len_pow {X : Nat} (h : X ≠ 0) (u : Nat) : (decs (X * 10 ^ u)).length = (decs X).length + u := by rw [← decs_mul_pow h, List.length_append, List.length_replicate]
theorem dtop_pow {X : Nat} (h : X ≠ 0) (u : Nat) (k : Int) : dtop (X * 10 ^ u) k = dtop X k + u := by
  rw [dtop, dtop, if_neg h, if_neg (by have := Nat.mul_pos (Nat.pos_of_ne_zero h) (pow_pos10 u); omega), decs_len_pow h]; omega
theorem sgW_finer {X n u W V : Nat} (m : Int) (neg : Bool) (k : Int) (hX : SgW X n W) (hY : SgW (X * 10 ^ u) n V) : rndV m neg (X * 10 ^ u) V k = rndV m neg X W (k + u) := by
  by_cases h0 : X = 0
  · subst h0
    rw [Nat.zero_mul, rndV_mult (Nat.zero_mod _), rndV_mult (Nat.zero_mod _)]; rfl
  · obtain ⟨h1, rfl⟩ := hX h0
    obtain ⟨-, rfl⟩ := hY (by have := Nat.mul_pos (Nat.pos_of_ne_zero h0) (pow_pos10 u); omega)
    rw [decs_len_pow h0, show (decs X).length + u - n = (decs X).length - n + u by omega, Nat.pow_add, rndV_finer]
theorem rndV_else {m : Int} {n : Bool} {X W : Nat} {k : Int} (h : ¬ (m = 7 ∧ X % W ≠ 0)) : rndV m n X W k = .tuple #[.agg #[.bool n, .string (nstr (rndN m n X W)), .int .i64 (nexp (rndN m n X W) k)], .int .i64 0] := by
  rw [rndV, if_neg h]
/-- Enough digits stand ahead of the place. -/
theorem DU.digits {k : Int} {s : ByteArray} {e : Int} {X : Nat} (h : DU k s e X) (h0 : X ≠ 0) : e - k < ((decs X).length : Int) := by
  have h1 := h.top_ge h0
  rw [dtop, if_neg h0] at h1
  omega
/-- A place of rounding to digits. -/
theorem sg_place {X n : Nat} (hn : n ≤ 300) (hn1 : 1 ≤ n) (hd : X ≠ 0 → 301 < (decs X).length) :
    (X ≠ 0 → n ≤ (decs X).length) ∧ -1000 ≤ dtop X (-1000) - n + 1 ∧ (dtop X (-1000) - n + 1 ≤ 0 ∨ dtop X (-1000) - n + 1 ≤ ((decs X).length : Int) - 1000) := by
  unfold dtop
  by_cases h0 : X = 0
  · rw [if_pos h0]; exact ⟨fun h => absurd h0 h, by omega, by omega⟩
  · rw [if_neg h0]
    have := hd h0
    exact ⟨fun _ => by omega, by omega, by omega⟩
/-- Behind a region that makes one box, and an error. -/
def OneMidE (w0 : World) (L : List (Nat × Value × Value × Value)) (X : Value × Value × Value) (c v u : Value) (W : World) : Prop :=
  ∃ g, v = .pointer (some ⟨g, 0, none⟩) ∧ u = c ∧ Kept3 w0 (L ++ [(g, X)]) W
theorem oneMidE_of {w0 W : World} {L : List (Nat × Value × Value × Value)} {x0 x1 x2 c : Value} {g : Nat} (hk : Sd w0 L W) (hx : Box3 W g x0 x1 x2) : OneMidE w0 L (x0, x1, x2) c (.pointer (some ⟨g, 0, none⟩)) c W := by
  obtain ⟨g', h1, h2⟩ := oneMid_of hk hx
  exact ⟨g', h1, rfl, h2⟩
end Go.Proofs.YtekanlcfgfllcaaDoor
/- An9 -/
/-
  An9: what a program that does nothing does not answer (layer 9).
-/
set_option maxRecDepth 100000
namespace Go.Proofs.YtekanlcfgfllcaaDoor
open Go.RowKit
theorem da12345 : DA 0 ⟨#[49, 50, 51, 52, 53]⟩ 0 12345 := ⟨⟨[1, 2, 3, 4, 5], ⟨rfl, by decide⟩, rfl⟩, by decide, by decide, by omega, by omega⟩
theorem len12345 : (decs 12345).length = 5 := by
  rw [decs_snoc (by omega), decs_snoc (show 12345 / 10 ≠ 0 by omega), decs_snoc (show 12345 / 10 / 10 ≠ 0 by omega), decs_snoc (show 12345 / 10 / 10 / 10 ≠ 0 by omega), decs_snoc (show 12345 / 10 / 10 / 10 / 10 ≠ 0 by omega), show 12345 / 10 / 10 / 10 / 10 / 10 = 0 by omega, decs_zero]; rfl
theorem tz12300 : tz10 12300 = 2 := by rw [tz10_step (by omega) rfl, tz10_step (by omega) rfl, tz10_none (by omega)]
theorem n12300 : nstr 12300 = ⟨#[49, 50, 51]⟩ ∧ nexp 12300 0 = 2 := by
  refine ⟨?_, ?_⟩
  · rw [nstr, nq, tz12300, show 12300 / 10 ^ 2 = 123 by omega, decs_snoc (by omega), decs_snoc (show 123 / 10 ≠ 0 by omega), decs_snoc (show 123 / 10 / 10 ≠ 0 by omega), show 123 / 10 / 10 / 10 = 0 by omega, decs_zero]; rfl
  · rw [nexp_of (by omega), tz12300]; rfl
theorem rnd12345 : rndV 5 false 12345 100 0 = .tuple #[.agg #[.bool false, .string ⟨#[49, 50, 51]⟩, .int .i64 2], .int .i64 0] := by
  have h : rndN 5 false 12345 100 = 12300 := by decide
  rw [rndV_of (by omega), h, n12300.1, n12300.2]
theorem du12345 : DU 0 ⟨#[49, 50, 51, 52, 53]⟩ 0 12345 := DU.one da12345 (by omega) (by omega) (by omega) (by simp) (by rw [len12345]; omega)
theorem top12345 : dtop 12345 0 = 4 := by rw [dtop, if_neg (by omega), len12345]; rfl
theorem da123 : DA 0 ⟨#[49, 50, 51]⟩ 0 123 := ⟨⟨[1, 2, 3], ⟨rfl, by decide⟩, rfl⟩, by decide, by decide, by omega, by omega⟩
theorem len12300 : (decs 12300).length = 5 := by
  have h1 := decs_len (show 12300 < 10 ^ 5 by omega)
  have h2 := (pow_le_iff 12300 4).1 (by omega)
  omega
theorem du123 : DU 0 ⟨#[49, 50, 51]⟩ 2 12300 := DU.one da123 (by omega) (by omega) (by omega) (by decide) (by rw [len12300]; omega)
theorem top12300 : dtop 12300 0 = 4 := by rw [dtop, if_neg (by omega), len12300]; rfl
end Go.Proofs.YtekanlcfgfllcaaDoor
