/-
  Dec2: dec.Norm, dec.sign, dec.cmpSizes.
-/
import Derived.Test.YtijalgngcbifgaaDoorDec1
import Derived.Deep.RegionHeld3
import Derived.IntWalk
namespace Go.Proofs.YtijalgngcbifgaaDoor
open Go.RowKit
theorem strD_nil : strD [] = ⟨#[]⟩ := rfl
theorem strD_size (ds : List Nat) : (strD ds).size = ds.length := by simp [strD, ByteArray.size]
/-- A block of three cells, as it reads. -/
def Box3 (W : World) (g : Nat) (x y z : Value) : Prop :=
  W.cell? ⟨g, 0, none⟩ = some x ∧ W.cell? ⟨g, 1, none⟩ = some y ∧ W.cell? ⟨g, 2, none⟩ = some z ∧ W.frozen? ⟨g, 0, none⟩ = false ∧ W.frozen? ⟨g, 1, none⟩ = false ∧ W.frozen? ⟨g, 2, none⟩ = false ∧ g < W.heap.size
theorem Box3.new (w : World) (x y z : Value) (t : TypeId) : Box3 (w.alloc (.cells #[x, y, z] t)) w.heap.size x y z := by
  refine ⟨?_, ?_, ?_, ?_, ?_, ?_, ?_⟩ <;> first | go_simp | simp
theorem Box3.below {B : Nat} {W W' : World} {g : Nat} {x y z : Value} (h : Box3 W g x y z) (hb : Below B W W') (hg : g < B) : Box3 W' g x y z := by
  obtain ⟨c0, c1, c2, f0, f1, f2, hz⟩ := h
  exact ⟨(hb.cell (p := ⟨g, 0, none⟩) hg).trans c0, (hb.cell (p := ⟨g, 1, none⟩) hg).trans c1, (hb.cell (p := ⟨g, 2, none⟩) hg).trans c2,
    (hb.frozen (p := ⟨g, 0, none⟩) hg).trans f0, (hb.frozen (p := ⟨g, 1, none⟩) hg).trans f1, (hb.frozen (p := ⟨g, 2, none⟩) hg).trans f2, Nat.lt_of_lt_of_le hz hb.size⟩
theorem Box3.keep {W W' : World} {g : Nat} {x y z : Value} (h : Box3 W g x y z) (hb : Below W.heap.size W W') : Box3 W' g x y z := h.below hb h.2.2.2.2.2.2
theorem Box3.alloc {W : World} {g : Nat} {x y z : Value} (h : Box3 W g x y z) (o : Obj) : Box3 (W.alloc o) g x y z := h.keep ((Below.refl _ _).alloc (Nat.le_refl _) o)
theorem Box3.drew {W : World} {g : Nat} {x y z : Value} (h : Box3 W g x y z) : Box3 W.drew g x y z := h
theorem nstr_zero : nstr 0 = ⟨#[48]⟩ := by rw [nstr, nq_zero, decs_zero]; rfl
theorem orZero_of {ds : List Nat} (h : ds ≠ []) : orZero ds = ds := by simp [orZero, h]
theorem nstr_of {N : Nat} (h : N ≠ 0) : nstr N = strD (decs (nq N)) := by rw [nstr, orZero_of (decs_nz (nq_pos h))]
theorem trimRight_zero (s : ByteArray) (w : World) (h : IsD s (orZero (decs 0))) :
    Calls Tryd.prog 30 #[.string s, .string ⟨#[48]⟩] w fun e w' => e = .returned (.string ⟨#[]⟩) ∧ w = w' := by
  have h1 := h.size
  rw [decs_zero] at h h1
  exact trimRight_c s _ w h (by rw [h1]; decide) (by rw [h1]; decide)
theorem trimRight_pos (s : ByteArray) (N : Nat) (w : World) (hN : N ≠ 0) (h : IsD s (orZero (decs N))) (hs : s.size ≤ 1000000000000) :
    Calls Tryd.prog 30 #[.string s, .string ⟨#[48]⟩] w fun e w' => e = .returned (.string (nstr N)) ∧ w = w' := by
  have h1 := h.size
  have h2 := decs_pos hN
  rw [orZero_of (decs_nz hN)] at h h1
  have h3 := trimRight_c s _ w h (by omega) hs
  rw [stripE_decs, ← nstr_of hN] at h3
  exact h3
theorem nexp_len {N : Nat} (h : N ≠ 0) (e : Int) (L : Nat) (hL : L = (orZero (decs N)).length) : e + (L : Int) - ((nstr N).size : Int) = nexp N e := by
  have h1 := decs_len_tz h
  rw [hL, nexp, if_neg h, nstr_of h, strD_size, orZero_of (decs_nz h)]
  omega
set_option maxHeartbeats 1600000 in
set_option maxRecDepth 100000 in
theorem decNorm_c (B : Nat) (n : Bool) (s : ByteArray) (e : Int) (N : Nat) (w : World) (h : DA B s e N) (hB : B ≤ 1000000) (hP : Pw w) :
    Calls Tryd.prog 13 #[.agg #[.bool n, .string s, .int .i64 e]] w fun r w' => r = .returned (.agg #[.bool n, .string (nstr N), .int .i64 (nexp N e)]) ∧ Below w.heap.size w w' := by
  have hb0 := ((Below.refl w.heap.size w).alloc (Nat.le_refl _) (.cells #[.bool n, .string s, .int .i64 e] 23)).alloc (by simp) (.cells #[.bool false, .string ⟨#[]⟩, .int .i64 0] 23)
  have HCN := Lib.hid (decCoef_c B n s e N _ h (hP.below hb0))
  have P := Lib.hid (hP.below hb0)
  have hlo := h.lo
  have hhi := h.hi
  have hdl := h.declen
  have X1 := Lib.hid ((Box3.new w (.bool n) (.string s) (.int .i64 e) 23).alloc (.cells #[.bool false, .string ⟨#[]⟩, .int .i64 0] 23))
  have X2 := Lib.hid (show Box3 _ (w.heap.size + 1) _ _ _ from by have := Box3.new (w.alloc (.cells #[.bool n, .string s, .int .i64 e] 23)) (.bool false) (.string ⟨#[]⟩) (.int .i64 0) 23; rwa [World.size_alloc] at this)
  have HB0 := Lib.hid hb0
  clear h hP hb0
  have hds := nstr_size N
  by_cases hN : N = 0
  · subst hN
    rw [nstr_zero, show nexp 0 e = 0 by simp [nexp]]
    clear hdl hds
    go_enter Tryd.func13, Tryd.ntmps13
    go_wp2_with fail
    refine HCN.out.mono ?_
    rintro r w1 ⟨A, m, c, rfl, ho, hb⟩
    have hm : m = 0 := by rw [← ho.len, digs_zero]; rfl
    have CD := tenDigits_c A m c _ w1 ho.limbs (digs_lt 1000000000 (by omega) 0) (by omega) (P.out.below hb)
    rw [val_digs 1000000000 (by omega)] at CD
    have HCD := Lib.hid CD
    replace X1 := Lib.hid (X1.out.keep hb)
    replace X2 := Lib.hid (X2.out.keep hb)
    have HB1 := Lib.hid (HB0.out.trans (hb.mono HB0.out.size))
    clear ho hm CD P HCN hb HB0
    go_wp2_with fail
    refine HCD.out.mono ?_
    rintro r w2 ⟨s2, rfl, hs2, hb⟩
    have CT := fun w => trimRight_zero s2 w hs2
    have HCT := Lib.hid CT
    obtain ⟨c0, c1, c2, -, -, -, -⟩ := X1.out.keep hb
    obtain ⟨d0, d1, d2, f0, f1, f2, hz⟩ := X2.out.keep hb
    have HB2 := Lib.hid (HB1.out.trans (hb.mono HB1.out.size))
    clear CT hs2 HCD X1 X2 HB1 hb
    go_wp2_with (go_at_call 30; refine (HCT.out _).mono ?_; rintro r w' ⟨rfl, rfl⟩)
    exact bodyPost_ret (v := .agg #[.bool n, .string ⟨#[48]⟩, .int .i64 0]) (by simp [results, Tryd.results13, go_sem, d0, d1, d2]) rfl
      ⟨rfl, ((HB2.out.setCell (by simp) _).setCell (by simp) _).setCell (by simp) _⟩
  · have EN := fun L hL => nexp_len hN e L hL
    have HEN := Lib.hid EN
    have hnp : (nstr N).toList.isEmpty = false := (isD_nstr N).isEmpty_false (nstr_pos N)
    have hnp2 : (!(nstr N).toList.isEmpty) = true := by rw [hnp]; rfl
    clear EN
    go_enter Tryd.func13, Tryd.ntmps13
    go_wp2_with fail
    refine HCN.out.mono ?_
    rintro r w1 ⟨A, m, c, rfl, ho, hb⟩
    have hm : m ≤ 5000 := by rw [← ho.len]; exact Nat.le_trans (digs_len9 (lt_pow_decs N)) hdl
    have CD := tenDigits_c A m c _ w1 ho.limbs (digs_lt 1000000000 (by omega) N) (by omega) (P.out.below hb)
    rw [val_digs 1000000000 (by omega)] at CD
    have HCD := Lib.hid CD
    replace X1 := Lib.hid (X1.out.keep hb)
    replace X2 := Lib.hid (X2.out.keep hb)
    have HB1 := Lib.hid (HB0.out.trans (hb.mono HB0.out.size))
    clear ho hm CD P HCN hb HB0
    go_wp2_with fail
    refine HCD.out.mono ?_
    rintro r w2 ⟨s2, rfl, hs2, hb⟩
    have hsz := hs2.size
    rw [orZero_of (decs_nz hN)] at hsz
    have hs2l : s2.size ≤ 5000 := by omega
    have HE := Lib.hid (HEN.out s2.size hs2.size)
    have HCT := Lib.hid (fun w => trimRight_pos s2 N w hN hs2 (by omega))
    obtain ⟨c0, c1, c2, -, -, -, -⟩ := X1.out.keep hb
    obtain ⟨d0, d1, d2, f0, f1, f2, hz⟩ := X2.out.keep hb
    have HB2 := Lib.hid (HB1.out.trans (hb.mono HB1.out.size))
    clear hs2 HCD X1 X2 HB1 hb hsz HEN
    go_wp2_with (go_at_call 30; refine (HCT.out _).mono ?_; rintro r w' ⟨rfl, rfl⟩)
    rw [HE.out]
    exact bodyPost_ret (v := .agg #[.bool n, .string (nstr N), .int .i64 (nexp N e)]) (by simp [results, Tryd.results13, go_sem, d0, d1, d2]) rfl
      ⟨rfl, ((HB2.out.setCell (by simp) _).setCell (by simp) _).setCell (by simp) _⟩
set_option maxHeartbeats 800000 in
set_option maxRecDepth 100000 in
theorem decSign_c (B : Nat) (n : Bool) (s : ByteArray) (e : Int) (N : Nat) (w : World) (h : DA B s e N) (hP : Pw w) :
    Calls Tryd.prog 33 #[.agg #[.bool n, .string s, .int .i64 e]] w fun r w' => r = .returned (.int .i64 (sgn n N)) ∧ Below w.heap.size w w' := by
  have hb0 := (Below.refl w.heap.size w).alloc (Nat.le_refl _) (.cells #[.bool n, .string s, .int .i64 e] 23)
  have HCN := Lib.hid (decZero_c B n s e N (w.alloc (.cells #[.bool n, .string s, .int .i64 e] 23)) h (hP.below hb0))
  have X1 := Lib.hid (Box3.new w (.bool n) (.string s) (.int .i64 e) 23)
  have HB0 := Lib.hid hb0
  clear h hP hb0
  by_cases hN : N = 0
  · rw [decide_eq_true hN] at HCN
    rw [show sgn n N = 0 by rw [hN, sgn_zero]]
    clear hN
    go_enter Tryd.func33, Tryd.ntmps33
    go_wp2_with fail
    refine HCN.out.mono ?_
    rintro r w1 ⟨rfl, hb⟩
    have HB := Lib.hid hb
    clear hb HCN
    go_wp2
    go_ret
    exact ⟨rfl, HB0.out.trans (HB.out.mono HB0.out.size)⟩
  · rw [decide_eq_false hN] at HCN
    cases n
    · rw [sgn_of hN, if_neg (by simp)]
      go_enter Tryd.func33, Tryd.ntmps33
      go_wp2_with fail
      refine HCN.out.mono ?_
      rintro r w1 ⟨rfl, hb⟩
      obtain ⟨c0, c1, c2, -, -, -, -⟩ := X1.out.keep hb
      have HB := Lib.hid hb
      clear hb HCN X1
      go_wp2
      go_ret
      exact ⟨rfl, HB0.out.trans (HB.out.mono HB0.out.size)⟩
    · rw [sgn_of hN, if_pos rfl]
      go_enter Tryd.func33, Tryd.ntmps33
      go_wp2_with fail
      refine HCN.out.mono ?_
      rintro r w1 ⟨rfl, hb⟩
      obtain ⟨c0, c1, c2, -, -, -, -⟩ := X1.out.keep hb
      have HB := Lib.hid hb
      clear hb HCN X1
      go_wp2
      go_ret
      exact ⟨rfl, HB0.out.trans (HB.out.mono HB0.out.size)⟩
/-- Three cells of a block, each listed. -/
def cellsOf3 : List (Nat × Value × Value × Value) → World → Prop
  | [], _ => True
  | t :: r, w => (w.cell? ⟨t.1, 0, none⟩ = some t.2.1 ∧ w.cell? ⟨t.1, 1, none⟩ = some t.2.2.1 ∧ w.cell? ⟨t.1, 2, none⟩ = some t.2.2.2) ∧ cellsOf3 r w
/-- What is held in a region: the table of powers, what was there ahead of the call, the blocks of the list. -/
def Kept3 (w0 : World) (L : List (Nat × Value × Value × Value)) (w : World) : Prop := Pw w ∧ Below w0.heap.size w0 w ∧ ∀ t ∈ L, Box3 w t.1 t.2.1 t.2.2.1 t.2.2.2
def Sd (w0 : World) (L : List (Nat × Value × Value × Value)) (w : World) : Prop := cellsOf3 L w ∧ Hid (Kept3 w0 L w)
theorem Sd.of {w0 w : World} {L : List (Nat × Value × Value × Value)} (h : Kept3 w0 L w) : Sd w0 L w := by
  refine ⟨?_, Lib.hid h⟩
  have hx := h.2.2
  clear h
  induction L with
  | nil => trivial
  | cons t r ih =>
    have h1 := hx t (by simp)
    exact ⟨⟨h1.1, h1.2.1, h1.2.2.1⟩, ih fun u hu => hx u (by simp [hu])⟩
theorem Kept3.keep {w0 w w' : World} {L : List (Nat × Value × Value × Value)} (h : Kept3 w0 L w) (hb : Below w.heap.size w w') : Kept3 w0 L w' :=
  ⟨h.1.below hb, h.2.1.trans (hb.mono h.2.1.size), fun t ht => (h.2.2 t ht).keep hb⟩
theorem Sd.keep {w0 w w' : World} {L : List (Nat × Value × Value × Value)} (h : Sd w0 L w) (hb : Below w.heap.size w w') : Sd w0 L w' := .of (h.2.out.keep hb)
theorem Sd.pw {w0 w : World} {L : List (Nat × Value × Value × Value)} (h : Sd w0 L w) : Pw w := h.2.out.1
theorem Sd.bel {w0 w : World} {L : List (Nat × Value × Value × Value)} (h : Sd w0 L w) : Below w0.heap.size w0 w := h.2.out.2.1
theorem Kept3.drew {w0 w : World} {L : List (Nat × Value × Value × Value)} (h : Kept3 w0 L w) : Kept3 w0 L w.drew := ⟨h.1, h.2.1.drew, h.2.2⟩
theorem top_all (N : Nat) (e : Int) : nexp N e + ((nstr N).size : Int) - 1 = dtop N e := by
  by_cases h : N = 0
  · subst h; rw [nstr_zero]; rfl
  · rw [nstr_of h, strD_size, top_norm h]
/-- What cmpSizes answers. -/
def sizeD (a : Nat) (ea : Int) (b : Nat) (eb : Int) : Int :=
  if dtop a ea = dtop b eb then lexc (orZero (decs (nq a))) (orZero (decs (nq b))) else cmpZ (dtop a ea) (dtop b eb)
theorem sizeD_eq {a b : Nat} (ha : a ≠ 0) (hb : b ≠ 0) (ea eb : Int) : sizeD a ea b eb = sizeC a ea b eb := by
  unfold sizeD sizeC
  rw [orZero_of (decs_nz (nq_pos ha)), orZero_of (decs_nz (nq_pos hb))]
theorem sizeD_bound (a : Nat) (ea : Int) (b : Nat) (eb : Int) : -1 ≤ sizeD a ea b eb ∧ sizeD a ea b eb ≤ 1 := by
  unfold sizeD
  split
  · rcases lexc_cases (orZero (decs (nq a))) (orZero (decs (nq b))) with h | h | h <;> omega
  · exact cmpZ_bound _ _
theorem decFirst_n (B : Nat) (n : Bool) (s : ByteArray) (e : Int) (a : Nat) (w : World) (h : DA B s e a) (hB : B ≤ 1000000) :
    Calls Tryd.prog 32 #[.agg #[.bool n, .string (nstr a), .int .i64 (nexp a e)]] w fun r w' => r = .returned (.int .i64 (dtop a e)) ∧ Below w.heap.size w w' := by
  have g := h.norm
  have h1 := g.len
  have h2 := g.lo
  have h3 := g.hi
  rw [← top_all a e]
  exact decFirst_c n (nstr a) (nexp a e) w (by omega) (by omega) (by omega)
theorem compareZ_c (x y : Int) (w : World) :
    Calls Tryd.prog 34 #[.int .i64 x, .int .i64 y] w fun e w' => e = .returned (.int .i64 (cmpZ x y)) ∧ w = w' := compareInt_c x y w
theorem kept_two (w : World) (x1 y1 z1 x2 y2 z2 : Value) (t : TypeId) (hP : Pw w) :
    Kept3 w [(w.heap.size, x1, y1, z1), (w.heap.size + 1, x2, y2, z2)] ((w.alloc (.cells #[x1, y1, z1] t)).alloc (.cells #[x2, y2, z2] t)) := by
  have hb0 := ((Below.refl w.heap.size w).alloc (Nat.le_refl _) (.cells #[x1, y1, z1] t)).alloc (by simp) (.cells #[x2, y2, z2] t)
  refine ⟨hP.below hb0, hb0, ?_⟩
  intro u hu
  simp only [List.mem_cons, List.not_mem_nil, or_false] at hu
  rcases hu with rfl | rfl
  · exact (Box3.new w x1 y1 z1 t).alloc _
  · have := Box3.new (w.alloc (.cells #[x1, y1, z1] t)) x2 y2 z2 t
    rwa [World.size_alloc] at this
theorem kept_one (w : World) (x1 y1 z1 : Value) (t : TypeId) (hP : Pw w) : Kept3 w [(w.heap.size, x1, y1, z1)] (w.alloc (.cells #[x1, y1, z1] t)) := by
  have hb0 := (Below.refl w.heap.size w).alloc (Nat.le_refl _) (.cells #[x1, y1, z1] t)
  refine ⟨hP.below hb0, hb0, ?_⟩
  intro u hu
  simp only [List.mem_cons, List.not_mem_nil, or_false] at hu
  subst hu
  exact Box3.new w x1 y1 z1 t
set_option maxHeartbeats 1600000 in
set_option maxRecDepth 100000 in
theorem decSizes_c (B : Nat) (n m : Bool) (s t : ByteArray) (e f : Int) (a b : Nat) (w : World) (h : DA B s e a) (h' : DA B t f b) (hB : B ≤ 1000000) (hP : Pw w) :
    Calls Tryd.prog 35 #[.agg #[.bool n, .string (nstr a), .int .i64 (nexp a e)], .agg #[.bool m, .string (nstr b), .int .i64 (nexp b f)]] w fun r w' => r = .returned (.int .i64 (sizeD a e b f)) ∧ Below w.heap.size w w' := by
  have HCC := Lib.hid (fun w => compareStr_c (nstr a) (nstr b) _ _ w (isD_nstr a) (isD_nstr b))
  have HF := Lib.hid h
  have HF' := Lib.hid h'
  have HZ := Lib.hid (compareZ_c (dtop a e) (dtop b f))
  have hS0 : Sd w [(w.heap.size, .bool n, .string (nstr a), .int .i64 (nexp a e)), (w.heap.size + 1, .bool m, .string (nstr b), .int .i64 (nexp b f))] _ := .of (Kept3.drew (kept_two w (.bool n) (.string (nstr a)) (.int .i64 (nexp a e)) (.bool m) (.string (nstr b)) (.int .i64 (nexp b f)) 23 hP))
  clear h h' hP
  by_cases ht : dtop a e = dtop b f
  · rw [cmpZ_eq ht] at HZ
    rw [show sizeD a e b f = lexc (orZero (decs (nq a))) (orZero (decs (nq b))) by rw [sizeD, if_pos ht]]
    clear ht
    go_enter Tryd.func35, Tryd.ntmps35
    go_wp2
    go_region_held3 (fun w' => ((w'.cell? ⟨w.heap.size, 0, none⟩ = some (.bool n) ∧ w'.cell? ⟨w.heap.size, 1, none⟩ = some (.string (nstr a)) ∧ w'.cell? ⟨w.heap.size, 2, none⟩ = some (.int .i64 (nexp a e))) ∧ (w'.cell? ⟨w.heap.size + 1, 0, none⟩ = some (.bool m) ∧ w'.cell? ⟨w.heap.size + 1, 1, none⟩ = some (.string (nstr b)) ∧ w'.cell? ⟨w.heap.size + 1, 2, none⟩ = some (.int .i64 (nexp b f))) ∧ True) ∧ Hid (Kept3 w [(w.heap.size, .bool n, .string (nstr a), .int .i64 (nexp a e)), (w.heap.size + 1, .bool m, .string (nstr b), .int .i64 (nexp b f))] w')) (assumption)
      (first
        | (go_at_call 32; refine (decFirst_n _ _ _ _ _ _ (by first | exact HF.out | exact HF'.out) hB).mono ?_; rintro r w1 ⟨rfl, hb⟩; have hS := Sd.keep (w0 := w) (L := [(w.heap.size, .bool n, .string (nstr a), .int .i64 (nexp a e)), (w.heap.size + 1, .bool m, .string (nstr b), .int .i64 (nexp b f))]) (by assumption) hb; clear hb)
        | (go_at_call 34; refine (HZ.out _).mono ?_; rintro r w1 ⟨rfl, rfl⟩))
    rename_i hHeld
    obtain ⟨⟨⟨c0, c1, c2⟩, ⟨d0, d1, d2⟩, -⟩, hk⟩ := hS
    clear hHeld
    go_wp2_with (go_at_call 46; refine (HCC.out _).mono ?_; rintro r w2 ⟨rfl, rfl⟩)
    go_ret
    exact ⟨rfl, hk.out.2.1⟩
  · rw [show sizeD a e b f = cmpZ (dtop a e) (dtop b f) by rw [sizeD, if_neg ht]]
    have hne : cmpZ (dtop a e) (dtop b f) ≠ 0 := by rcases cmpZ_cases (dtop a e) (dtop b f) with hh | hh | hh <;> omega
    have hne2 : (cmpZ (dtop a e) (dtop b f) != 0) = true := by simpa using hne
    clear ht hne
    generalize cmpZ (dtop a e) (dtop b f) = Z at *
    go_enter Tryd.func35, Tryd.ntmps35
    go_wp2
    go_region_held3 (fun w' => ((w'.cell? ⟨w.heap.size, 0, none⟩ = some (.bool n) ∧ w'.cell? ⟨w.heap.size, 1, none⟩ = some (.string (nstr a)) ∧ w'.cell? ⟨w.heap.size, 2, none⟩ = some (.int .i64 (nexp a e))) ∧ (w'.cell? ⟨w.heap.size + 1, 0, none⟩ = some (.bool m) ∧ w'.cell? ⟨w.heap.size + 1, 1, none⟩ = some (.string (nstr b)) ∧ w'.cell? ⟨w.heap.size + 1, 2, none⟩ = some (.int .i64 (nexp b f))) ∧ True) ∧ Hid (Kept3 w [(w.heap.size, .bool n, .string (nstr a), .int .i64 (nexp a e)), (w.heap.size + 1, .bool m, .string (nstr b), .int .i64 (nexp b f))] w')) (assumption)
      (first
        | (go_at_call 32; refine (decFirst_n _ _ _ _ _ _ (by first | exact HF.out | exact HF'.out) hB).mono ?_; rintro r w1 ⟨rfl, hb⟩; have hS := Sd.keep (w0 := w) (L := [(w.heap.size, .bool n, .string (nstr a), .int .i64 (nexp a e)), (w.heap.size + 1, .bool m, .string (nstr b), .int .i64 (nexp b f))]) (by assumption) hb; clear hb)
        | (go_at_call 34; refine (HZ.out _).mono ?_; rintro r w1 ⟨rfl, rfl⟩))
    rename_i hHeld
    obtain ⟨-, hk⟩ := hS
    clear hHeld
    go_wp2
    go_ret
    exact ⟨rfl, hk.out.2.1⟩
theorem sgn_bound (n : Bool) (a : Nat) : -1 ≤ sgn n a ∧ sgn n a ≤ 1 := by unfold sgn; split <;> (try split) <;> omega
theorem cmpV_of_eq {n m : Bool} {a b : Nat} (e f : Int) (h : sgn n a = sgn m b) : sgn n a * sizeD a e b f = cmpV n a e m b f := by
  rw [← cmpD_eq, cmpD, if_pos h]
  by_cases ha : a = 0
  · subst ha; rw [sgn_zero]; simp
  · by_cases hb : b = 0
    · subst hb
      rw [sgn_zero, sgn_of ha] at h
      cases n <;> simp at h
    · rw [sizeD_eq ha hb]
theorem cmpV_of_ne {n m : Bool} {a b : Nat} (e f : Int) (h : sgn n a ≠ sgn m b) : cmpZ (sgn n a) (sgn m b) = cmpV n a e m b f := by rw [← cmpD_eq, cmpD, if_neg h]
theorem mul_bound {x y : Int} (h1 : -1 ≤ x) (h2 : x ≤ 1) (h3 : -1 ≤ y) (h4 : y ≤ 1) : -1 ≤ x * y ∧ x * y ≤ 1 := by
  obtain rfl | rfl | rfl : x = -1 ∨ x = 0 ∨ x = 1 := by omega
  all_goals omega
set_option maxHeartbeats 1600000 in
set_option maxRecDepth 100000 in
theorem decCmp_c (B : Nat) (n m : Bool) (s t : ByteArray) (e f : Int) (a b : Nat) (w : World) (h : DA B s e a) (h' : DA B t f b) (hB : B ≤ 1000000) (hP : Pw w) :
    Calls Tryd.prog 23 #[.agg #[.bool n, .string s, .int .i64 e], .agg #[.bool m, .string t, .int .i64 f]] w fun r w' => r = .returned (.int .i64 (cmpV n a e m b f)) ∧ Below w.heap.size w w' := by
  have HF := Lib.hid h
  have HF' := Lib.hid h'
  have HZ := Lib.hid (compareZ_c (sgn n a) (sgn m b))
  have HK := Lib.hid (kept_two w (.bool n) (.string s) (.int .i64 e) (.bool m) (.string t) (.int .i64 f) 23 hP)
  clear h h' hP
  by_cases ht : sgn n a = sgn m b
  · rw [cmpZ_eq ht] at HZ
    have HE := Lib.hid (cmpV_of_eq e f ht)
    have hm := mul_bound (sgn_bound n a).1 (sgn_bound n a).2 (sizeD_bound a e b f).1 (sizeD_bound a e b f).2
    have hw : IntKind.i64.wrap (sgn n a * sizeD a e b f) = sgn n a * sizeD a e b f := IntWalk.i64_in _ (by omega)
    have HW := Lib.hid hw
    clear ht hm hw
    go_enter Tryd.func23, Tryd.ntmps23
    go_wp2_with fail
    refine (decSign_c _ _ _ _ _ _ HF.out HK.out.1).mono ?_
    rintro r w1 ⟨rfl, hb⟩
    have hk := HK.out.keep hb
    obtain ⟨⟨⟨c0, c1, c2⟩, ⟨d0, d1, d2⟩, -⟩, -⟩ := Sd.of hk
    replace HK := Lib.hid hk
    clear hk hb
    go_wp2_with fail
    refine (decSign_c _ _ _ _ _ _ HF'.out HK.out.1).mono ?_
    rintro r w2 ⟨rfl, hb⟩
    clear c0 c1 c2 d0 d1 d2
    have hk := HK.out.keep hb
    obtain ⟨⟨⟨c0, c1, c2⟩, ⟨d0, d1, d2⟩, -⟩, -⟩ := Sd.of hk
    replace HK := Lib.hid hk
    clear hk hb
    go_wp2_with (go_at_call 34; refine (HZ.out _).mono ?_; rintro r w1 ⟨rfl, rfl⟩)
    have hw := HW.out
    have hS : Sd w [(w.heap.size, .bool n, .string s, .int .i64 e), (w.heap.size + 1, .bool m, .string t, .int .i64 f)] w2.drew := .of HK.out.drew
    clear c0 c1 c2 d0 d1 d2
    go_region_held3 (fun w' => ((w'.cell? ⟨w.heap.size, 0, none⟩ = some (.bool n) ∧ w'.cell? ⟨w.heap.size, 1, none⟩ = some (.string s) ∧ w'.cell? ⟨w.heap.size, 2, none⟩ = some (.int .i64 e)) ∧ (w'.cell? ⟨w.heap.size + 1, 0, none⟩ = some (.bool m) ∧ w'.cell? ⟨w.heap.size + 1, 1, none⟩ = some (.string t) ∧ w'.cell? ⟨w.heap.size + 1, 2, none⟩ = some (.int .i64 f)) ∧ True) ∧ Hid (Kept3 w [(w.heap.size, .bool n, .string s, .int .i64 e), (w.heap.size + 1, .bool m, .string t, .int .i64 f)] w')) (assumption)
      (first
        | (go_at_call 13; refine (decNorm_c _ _ _ _ _ _ (by first | exact HF.out | exact HF'.out) hB (Sd.pw (w0 := w) (L := [(w.heap.size, .bool n, .string s, .int .i64 e), (w.heap.size + 1, .bool m, .string t, .int .i64 f)]) (by assumption))).mono ?_; rintro r w1 ⟨rfl, hb⟩; have hS := Sd.keep (w0 := w) (L := [(w.heap.size, .bool n, .string s, .int .i64 e), (w.heap.size + 1, .bool m, .string t, .int .i64 f)]) (by assumption) hb; clear hb)
        | (go_at_call 35; refine (decSizes_c _ _ _ _ _ _ _ _ _ _ HF.out HF'.out hB (Sd.pw (w0 := w) (L := [(w.heap.size, .bool n, .string s, .int .i64 e), (w.heap.size + 1, .bool m, .string t, .int .i64 f)]) (by assumption))).mono ?_; rintro r w1 ⟨rfl, hb⟩; have hS := Sd.keep (w0 := w) (L := [(w.heap.size, .bool n, .string s, .int .i64 e), (w.heap.size + 1, .bool m, .string t, .int .i64 f)]) (by assumption) hb; clear hb))
    rename_i hHeld
    obtain ⟨-, hk⟩ := hS
    clear hHeld hw
    go_wp2
    go_ret
    exact ⟨ret_int HE.out, hk.out.2.1⟩
  · have HE := Lib.hid (cmpV_of_ne e f ht)
    have hne : cmpZ (sgn n a) (sgn m b) ≠ 0 := by rcases cmpZ_cases (sgn n a) (sgn m b) with hh | hh | hh <;> omega
    have hne2 : (cmpZ (sgn n a) (sgn m b) != 0) = true := by simpa using hne
    clear ht hne
    generalize cmpZ (sgn n a) (sgn m b) = Z at *
    go_enter Tryd.func23, Tryd.ntmps23
    go_wp2_with fail
    refine (decSign_c _ _ _ _ _ _ HF.out HK.out.1).mono ?_
    rintro r w1 ⟨rfl, hb⟩
    have hk := HK.out.keep hb
    obtain ⟨⟨⟨c0, c1, c2⟩, ⟨d0, d1, d2⟩, -⟩, -⟩ := Sd.of hk
    replace HK := Lib.hid hk
    clear hk hb
    go_wp2_with fail
    refine (decSign_c _ _ _ _ _ _ HF'.out HK.out.1).mono ?_
    rintro r w2 ⟨rfl, hb⟩
    clear c0 c1 c2 d0 d1 d2
    replace HK := Lib.hid (HK.out.keep hb)
    clear hb
    go_wp2_with (go_at_call 34; refine (HZ.out _).mono ?_; rintro r w1 ⟨rfl, rfl⟩)
    go_ret
    exact ⟨ret_int HE.out, HK.out.2.1⟩
end Go.Proofs.YtijalgngcbifgaaDoor
