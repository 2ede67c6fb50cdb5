/-
  Sg6: the middle of ArithSigns' walk: two differences in two new boxes.
-/
import Derived.Test.YtbjdledincahkaaDoorAn6
import Derived.Deep.DeepCutAuto
namespace Go.Proofs.YtbjdledincahkaaDoor
open Go.RowKit
theorem Kept3.keepB {B : Nat} {w0 w w' : World} {L : List (Nat × Value × Value × Value)} (h : Kept3 w0 L w) (hb : Below B w w') (hL : ∀ t ∈ L, t.1 < B) (hp : 0 < B) (hB : w0.heap.size ≤ B) : Kept3 w0 L w' :=
  ⟨h.1.below' hb hp, h.2.1.trans (hb.mono hB), fun t ht => (h.2.2 t ht).below hb (hL t ht)⟩
theorem Sd.keepB {B : Nat} {w0 w w' : World} {L : List (Nat × Value × Value × Value)} (h : Sd w0 L w) (hb : Below B w w') (hL : ∀ t ∈ L, t.1 < B) (hp : 0 < B) (hB : w0.heap.size ≤ B) : Sd w0 L w' := .of (h.2.out.keepB hb hL hp hB)
/-- Behind 'd, e := .., ..': two new boxes. -/
def SgMid (w0 : World) (L : List (Nat × Value × Value × Value)) (X Y : Value × Value × Value) (vx vy : Value) (W : World) : Prop :=
  ∃ gx gy, vx = .pointer (some ⟨gx, 0, none⟩) ∧ vy = .pointer (some ⟨gy, 0, none⟩) ∧ gx ≠ gy ∧ w0.heap.size + 1 < gx ∧ w0.heap.size + 1 < gy ∧ Kept3 w0 (L ++ [(gx, X), (gy, Y)]) W
theorem sgMid_of {w0 W : World} {L : List (Nat × Value × Value × Value)} {x0 x1 x2 y0 y1 y2 : Value} {gx gy : Nat} (hk : Sd w0 L W) (hx : Box3 W gx x0 x1 x2) (hy : Box3 W gy y0 y1 y2) (hne : gx ≠ gy) (h1 : w0.heap.size + 1 < gx) (h2 : w0.heap.size + 1 < gy) :
    SgMid w0 L (x0, x1, x2) (y0, y1, y2) (.pointer (some ⟨gx, 0, none⟩)) (.pointer (some ⟨gy, 0, none⟩)) W :=
  ⟨gx, gy, rfl, rfl, hne, h1, h2, hk.2.out.1, hk.2.out.2.1, fun u hu => by
    rcases List.mem_append.1 hu with hu | hu
    · exact hk.2.out.2.2 u hu
    · simp only [List.mem_cons, List.not_mem_nil, or_false] at hu
      rcases hu with rfl | rfl
      · exact hx
      · exact hy⟩
structure SubIs (n0 : Bool) (s0 : ByteArray) (e0 : Int) (n1 : Bool) (s1 : ByteArray) (e1 : Int) (nd : Bool) (T : ByteArray) (X : Int) : Prop where
  c : ∀ w : World, Pw w → Calls Tryd.prog 12 #[.agg #[.bool n0, .string s0, .int .i64 e0], .agg #[.bool n1, .string s1, .int .i64 e1]] w fun r w' => r = .returned (.agg #[.bool nd, .string T, .int .i64 X]) ∧ Below w.heap.size w w'
theorem sub_is {n0 : Bool} {s0 : ByteArray} {e0 : Int} {n1 : Bool} {s1 : ByteArray} {e1 : Int} {nd : Bool} {T : ByteArray} {X : Int} {w : World} (h : SubIs n0 s0 e0 n1 s1 e1 nd T X) (hP : Pw w) :
    Calls Tryd.prog 12 #[.agg #[.bool n0, .string s0, .int .i64 e0], .agg #[.bool n1, .string s1, .int .i64 e1]] w fun r w' => r = .returned (.agg #[.bool nd, .string T, .int .i64 X]) ∧ Below w.heap.size w w' := h.c w hP
/-- All that ArithSigns asks, by value. -/
structure Signs (n0 : Bool) (s0 : ByteArray) (e0 : Int) (n1 : Bool) (s1 : ByteArray) (e1 : Int) (nd ne np : Bool) (T U : ByteArray) (X Y : Int) (S0 S1 : ByteArray) (E0 E1 : Int) : Prop where
  sub1 : ∀ w : World, Pw w → Calls Tryd.prog 12 #[.agg #[.bool n0, .string s0, .int .i64 e0], .agg #[.bool n1, .string s1, .int .i64 e1]] w fun r w' => r = .returned (.agg #[.bool nd, .string T, .int .i64 X]) ∧ Below w.heap.size w w'
  sub2 : ∀ w : World, Pw w → Calls Tryd.prog 12 #[.agg #[.bool n1, .string s1, .int .i64 e1], .agg #[.bool n0, .string s0, .int .i64 e0]] w fun r w' => r = .returned (.agg #[.bool ne, .string T, .int .i64 X]) ∧ Below w.heap.size w w'
  mul : ∀ w : World, Pw w → Calls Tryd.prog 14 #[.agg #[.bool n0, .string s0, .int .i64 e0], .agg #[.bool n1, .string s1, .int .i64 e1]] w fun r w' => r = .returned (.agg #[.bool np, .string U, .int .i64 Y]) ∧ Below w.heap.size w w'
  neg1 : ∀ w : World, Pw w → Calls Tryd.prog 17 #[.agg #[.bool n0, .string s0, .int .i64 e0]] w fun r w' => r = .returned (.agg #[.bool (!n0), .string S0, .int .i64 E0]) ∧ Below w.heap.size w w'
  neg2 : ∀ w : World, Pw w → Calls Tryd.prog 17 #[.agg #[.bool (!n0), .string S0, .int .i64 E0]] w fun r w' => r = .returned (.agg #[.bool n0, .string S0, .int .i64 E0]) ∧ Below w.heap.size w w'
  norm : ∀ w : World, Pw w → Calls Tryd.prog 18 #[.agg #[.bool n0, .string s0, .int .i64 e0]] w fun r w' => r = .returned (.agg #[.bool n0, .string S0, .int .i64 E0]) ∧ Below w.heap.size w w'
  negE : ∀ w : World, Pw w → Calls Tryd.prog 17 #[.agg #[.bool ne, .string T, .int .i64 X]] w fun r w' => r = .returned (.agg #[.bool (!ne), .string T, .int .i64 X]) ∧ Below w.heap.size w w'
  absD : ∀ w : World, Pw w → Calls Tryd.prog 19 #[.agg #[.bool nd, .string T, .int .i64 X]] w fun r w' => r = .returned (.agg #[.bool false, .string T, .int .i64 X]) ∧ Below w.heap.size w w'
  absE : ∀ w : World, Pw w → Calls Tryd.prog 19 #[.agg #[.bool ne, .string T, .int .i64 X]] w fun r w' => r = .returned (.agg #[.bool false, .string T, .int .i64 X]) ∧ Below w.heap.size w w'
  absP : ∀ w : World, Pw w → Calls Tryd.prog 19 #[.agg #[.bool np, .string U, .int .i64 Y]] w fun r w' => r = .returned (.agg #[.bool false, .string U, .int .i64 Y]) ∧ Below w.heap.size w w'
  abs0 : ∀ w : World, Pw w → Calls Tryd.prog 19 #[.agg #[.bool n0, .string s0, .int .i64 e0]] w fun r w' => r = .returned (.agg #[.bool false, .string S0, .int .i64 E0]) ∧ Below w.heap.size w w'
  abs1 : ∀ w : World, Pw w → Calls Tryd.prog 19 #[.agg #[.bool n1, .string s1, .int .i64 e1]] w fun r w' => r = .returned (.agg #[.bool false, .string S1, .int .i64 E1]) ∧ Below w.heap.size w w'
  mul2 : ∀ w : World, Pw w → Calls Tryd.prog 14 #[.agg #[.bool false, .string S0, .int .i64 E0], .agg #[.bool false, .string S1, .int .i64 E1]] w fun r w' => r = .returned (.agg #[.bool false, .string U, .int .i64 Y]) ∧ Below w.heap.size w w'
  d : (((T.toList == [48]) = true ∧ nd = false ∧ ne = false)) ∨ ((T.toList == [48]) = false ∧ nd = !ne)
  p : (U.toList == [48]) = true ∨ ((U.toList == [48]) = false ∧ np = (n0 != n1))
theorem abs_z (n : Bool) (Z k : Int) (w : World) (h : (decs Z.natAbs).length ≤ 4990) (h1 : -(20000 : Int) ≤ k) (h2 : k ≤ 20000) (hP : Pw w) :
    Calls Tryd.prog 19 #[.agg #[.bool n, .string (zstr Z), .int .i64 (zexp Z k)]] w fun r w' => r = .returned (.agg #[.bool false, .string (zstr Z), .int .i64 (zexp Z k)]) ∧ Below w.heap.size w w' := by
  have := abs_c 25000 n (zstr Z) (zexp Z k) (nq Z.natAbs) w (DA.of_z (B := 20000) h (by omega) (by omega)) (by omega) hP
  rwa [show nstr (nq Z.natAbs) = zstr Z from (norm_norm _ 0).1, show nexp (nq Z.natAbs) (zexp Z k) = zexp Z k from nexp_nq _ _] at this
theorem neg_z (n : Bool) (Z k : Int) (w : World) (h : (decs Z.natAbs).length ≤ 4990) (h1 : -(20000 : Int) ≤ k) (h2 : k ≤ 20000) (hP : Pw w) :
    Calls Tryd.prog 17 #[.agg #[.bool n, .string (zstr Z), .int .i64 (zexp Z k)]] w fun r w' => r = .returned (.agg #[.bool (!n), .string (zstr Z), .int .i64 (zexp Z k)]) ∧ Below w.heap.size w w' := by
  have := neg_c 25000 n (zstr Z) (zexp Z k) (nq Z.natAbs) w (DA.of_z (B := 20000) h (by omega) (by omega)) (by omega) hP
  rwa [show nstr (nq Z.natAbs) = zstr Z from (norm_norm _ 0).1, show nexp (nq Z.natAbs) (zexp Z k) = zexp Z k from nexp_nq _ _] at this
theorem atE_abs (n : Bool) (N : Nat) (e k : Int) : ((atE n N e k).natAbs : Int) = atE false N e k := by
  rw [atE, atE, sv_natAbs]; simp [sv]
theorem z_abs (Z : Int) (k : Int) : zneg (Z.natAbs : Int) = false ∧ zstr (Z.natAbs : Int) = zstr Z ∧ zexp (Z.natAbs : Int) k = zexp Z k := by
  refine ⟨?_, ?_, ?_⟩
  · unfold zneg; exact decide_eq_false (by omega)
  · rw [zstr, zstr, Int.natAbs_natCast]
  · rw [zexp, zexp, Int.natAbs_natCast]
theorem DV.norm_abs {B : Nat} {s : ByteArray} {e k : Int} {N : Nat} (n : Bool) (h : DA B s e N) (hB : B ≤ 20000) (hk : k ≤ e) (hk0 : k ≤ 0) (hl : -30000 ≤ k) (h3 : (decs (atE n N e k).natAbs).length ≤ 4900) :
    DV k false (nstr N) (nexp N e) ((atE n N e k).natAbs : Int) := by
  refine ⟨⟨nq N, h.norm.mono (by omega), ?_⟩, ?_, hl, by rwa [Int.natAbs_natCast]⟩
  · rw [atE_abs, atE_norm _ _ _ _ hk]
  · unfold nexp; split <;> omega
theorem signs_of {n0 n1 : Bool} {s0 s1 : ByteArray} {e0 e1 : Int} (hf0 : fineD 200 s0 e0 = true) (hf1 : fineD 200 s1 e1 = true) :
    ∃ nd ne np T U X Y S0 S1 E0 E1, Signs n0 s0 e0 n1 s1 e1 nd ne np T U X Y S0 S1 E0 E1 := by
  have hd0 := DA.of_good (fineD_good hf0).1
  have hd1 := DA.of_good (fineD_good hf1).1
  have h0a := hd0.lo
  have h0b := hd0.hi
  have h1a := hd1.lo
  have h1b := hd1.hi
  obtain ⟨hv0, hl0⟩ := DV.of_fine (n := n0) (k := -1000) hf0 (by omega) (by omega) (by omega)
  obtain ⟨hv1, hl1⟩ := DV.of_fine (n := n1) (k := -1000) hf1 (by omega) (by omega) (by omega)
  generalize dval (bdigs s0) = N0 at *
  generalize dval (bdigs s1) = N1 at *
  have ha0 := DV.norm_abs (k := -1000) n0 hd0 (by omega) (by omega) (by omega) (by omega) (by omega)
  have ha1 := DV.norm_abs (k := -1000) n1 hd1 (by omega) (by omega) (by omega) (by omega) (by omega)
  generalize atE n0 N0 e0 (-1000) = V0 at *
  generalize atE n1 N1 e1 (-1000) = V1 at *
  have hls := len_sub (A := V0) (C := V1) (L := 2200) (by omega) (by omega)
  have hlp := len_mul (A := V0) (C := V1) (L := 2200) (M := 2200) (by omega) (by omega)
  have hz := z_neg (V0 - V1)
  have hsw : V1 - V0 = -(V0 - V1) := by omega
  refine ⟨zneg (V0 - V1), zneg (V1 - V0), zneg (V0 * V1), zstr (V0 - V1), zstr (V0 * V1), zexp (V0 - V1) (-1000), zexp (V0 * V1) (-2000), nstr N0, nstr N1, nexp N0 e0, nexp N1 e1, ?_⟩
  refine ⟨fun w hP => sub_d hv0 hv1 rfl hP, fun w hP => ?_, fun w hP => mul_d hv0 hv1 rfl (by omega) (by omega) hP, fun w hP => neg_c 1000 n0 s0 e0 N0 w hd0 (by omega) hP, fun w hP => ?_,
    fun w hP => ref5Norm_c 1000 n0 s0 e0 N0 w hd0 (by omega) hP, fun w hP => neg_z _ _ _ w (by omega) (by omega) (by omega) hP, fun w hP => abs_z _ _ _ w (by omega) (by omega) (by omega) hP, fun w hP => abs_z _ _ _ w (by omega) (by omega) (by omega) hP,
    fun w hP => abs_z _ _ _ w (by omega) (by omega) (by omega) hP, fun w hP => abs_c 1000 n0 s0 e0 N0 w hd0 (by omega) hP, fun w hP => abs_c 1000 n1 s1 e1 N1 w hd1 (by omega) hP, fun w hP => ?_, ?_, ?_⟩
  · have := sub_d (w := w) hv1 hv0 hsw hP
    rwa [hz.1, hz.2, ← hsw] at this
  · have := neg_c 10000 (!n0) (nstr N0) (nexp N0 e0) (nq N0) w (hd0.norm.mono (by omega)) (by omega) hP
    rwa [(norm_norm N0 e0).1, (norm_norm N0 e0).2, Bool.not_not] at this
  · have hm := z_abs (V0 * V1) (-2000)
    have := mul_d (w := w) (Z := ((V0 * V1).natAbs : Int)) (K := -2000) ha0 ha1 (by rw [Int.natAbs_mul]; exact (Int.natCast_mul _ _).symm) (by omega) (by rw [Int.natAbs_natCast]; omega) hP
    rwa [hm.1, hm.2.1, hm.2.2] at this
  · by_cases h : V0 - V1 = 0
    · refine .inl ⟨by rw [zstr_is0]; exact decide_eq_true h, by rw [h]; rfl, by rw [hsw, h]; rfl⟩
    · exact .inr ⟨by rw [zstr_is0]; exact decide_eq_false h, by rw [hsw, zneg_neg h, Bool.not_not]⟩
  · by_cases h : V0 * V1 = 0
    · exact .inl (by rw [zstr_is0]; exact decide_eq_true h)
    · refine .inr ⟨by rw [zstr_is0]; exact decide_eq_false h, ?_⟩
      obtain ⟨⟨M0, -, q0⟩, -, -, -⟩ := hv0
      obtain ⟨⟨M1, -, q1⟩, -, -, -⟩ := hv1
      rw [← q0, ← q1, atE, atE, sv_mul2] at h ⊢
      refine zneg_sv _ _ (fun hh => h ?_)
      rw [hh, sv_zero]
end Go.Proofs.YtbjdledincahkaaDoor
