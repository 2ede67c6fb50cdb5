/-
  Dec1: texts of digits as values; strings.TrimRight at "0"; cmp.Compare of texts; a decimal that is handed in; dec.Coef, dec.first, dec.Zero, dec.sign.
-/
import Derived.Test.YtijalgngcbifgaaDoorKF
import Derived.Test.YtijalgngcbifgaaDoorDecM
namespace Go.Proofs.YtijalgngcbifgaaDoor
open Go.RowKit
/-- The text of digits. -/
def strD (ds : List Nat) : ByteArray := ⟨(ds.map (fun d => UInt8.ofNat (48 + d))).toArray⟩
theorem isD_strD {ds : List Nat} (h : ∀ d ∈ ds, d < 10) : IsD (strD ds) ds := by
  refine ⟨?_, h⟩
  simp only [strD, List.map_map]
  refine List.map_congr_left fun d hd => ?_
  have := h d hd
  simp only [Function.comp, UInt8.toNat_ofNat']
  omega
theorem IsD.eq_strD {s : ByteArray} {ds : List Nat} (h : IsD s ds) : s = strD ds := IsD.ext h (isD_strD h.2)
theorem orZero_lt {ds : List Nat} (h : ∀ d ∈ ds, d < 10) : ∀ d ∈ orZero ds, d < 10 := by
  unfold orZero
  split
  · simp
  · exact h
/-- The digits of a number, as they should be. -/
def nstr (n : Nat) : ByteArray := strD (orZero (decs (nq n)))
theorem isD_nstr (n : Nat) : IsD (nstr n) (orZero (decs (nq n))) := isD_strD (orZero_lt (decs_lt _))
theorem nstr_pos (n : Nat) : 0 < (nstr n).size := by
  rw [(isD_nstr n).size]
  unfold orZero
  split
  · simp
  · rename_i h; exact Nat.pos_of_ne_zero fun e => h (List.eq_nil_of_length_eq_zero e)
theorem IsD.isEmpty_false {s : ByteArray} {ds : List Nat} (h : IsD s ds) (hp : 0 < s.size) : s.toList.isEmpty = false := by
  cases hh : s.toList with
  | nil =>
    have h1 := h.list
    rw [hh] at h1
    have h2 := h.size
    simp at h1
    rw [h1] at h2
    simp only [List.length_nil] at h2
    omega
  | cons => rfl
set_option maxHeartbeats 800000 in
theorem trimRightByte_c (s : ByteArray) (ds : List Nat) (w : World) (h : IsD s ds) (hs : s.size ≤ 1000000000000) :
    Calls Tryd.prog 41 #[.string s, .int .u8 48] w fun e w' => e = .returned (.string (strD (stripE ds))) ∧ w = w' := by
  have H := Lib.hid h
  clear h
  go_enter Tryd.func41, Tryd.ntmps41
  go_wp2
  go_loop [0] (fun v => ∃ (t : ByteArray) (es : List Nat), v = .string t ∧ IsD t es ∧ stripE es = stripE ds ∧ t.size ≤ 1000000000000) (fun v => strLen v)
  case atStart => exact ⟨s, ds, rfl, H.out, rfl, hs⟩
  case round =>
    obtain ⟨t, es, rfl, ht0, hz0, htl⟩ := hrel
    have HZ := Lib.hid hz0
    have HT := Lib.hid ht0
    rcases List.eq_nil_or_concat es with rfl | ⟨r, d, rfl⟩
    · have hsz : t.size = 0 := ht0.size
      clear ht0 hz0
      go_wp2
      go_ret
      refine ⟨?_, rfl⟩
      rw [← HZ.out, HT.out.eq_strD]; rfl
    · have hsz : t.size = r.length + 1 := by rw [ht0.size]; simp
      have hpos : 0 < t.size := by omega
      have hpos1 : 1 ≤ t.size := by omega
      have hlt : t.size - 1 < t.size := by omega
      have hb := ht0.at_ hlt
      have hd0 : (r.concat d).getD (t.size - 1) 0 = d := by
        rw [hsz]; simp [List.getD]
      rw [hd0] at hb
      have HSZ := Lib.hid hsz
      have HB := Lib.hid hb
      clear ht0 hz0 hsz hb hd0
      by_cases hd : d = 0
      · have hd1 : (((t[t.size - 1].toNat : Nat) : Int) == 48) = true := by have := HB.out; simp; omega
        go_wp2
        go_round
        case rel =>
          refine ⟨_, r, rfl, ?_, ?_, ?_⟩
          · have h1 := HT.out.cut 0 (t.size - 1)
            rw [HSZ.out, Nat.add_sub_cancel, List.drop_zero, List.concat_eq_append, List.take_left] at h1
            rw [HSZ.out, Nat.add_sub_cancel]
            exact h1
          · rw [← HZ.out, hd, List.concat_eq_append, stripE_snoc0]
          · simp; omega
        case measure => simp [strLen]; omega
      · have hd1 : (((t[t.size - 1].toNat : Nat) : Int) == 48) = false := by have := HB.out; simp; omega
        go_wp2
        go_ret
        refine ⟨?_, rfl⟩
        rw [← HZ.out, List.concat_eq_append, stripE_snoc _ hd, ← List.concat_eq_append]
        exact congrArg (fun x => Ending.returned (.string x)) HT.out.eq_strD
set_option maxHeartbeats 800000 in
set_option maxRecDepth 100000 in
theorem trimRight_c (s : ByteArray) (ds : List Nat) (w : World) (h : IsD s ds) (hp : 0 < s.size) (hs : s.size ≤ 1000000000000) :
    Calls Tryd.prog 30 #[.string s, .string ⟨#[48]⟩] w fun e w' => e = .returned (.string (strD (stripE ds))) ∧ w = w' := by
  have hb2 := h.isEmpty_false hp
  have hb1 : (!s.toList.isEmpty) = true := by rw [hb2]; rfl
  have HCT := Lib.hid (trimRightByte_c s ds w h hs)
  clear h
  go_enter Tryd.func30, Tryd.ntmps30
  go_wp2_with (go_at_call 41; refine HCT.out.mono ?_; rintro e w' ⟨rfl, rfl⟩)
  go_ret
  exact ⟨rfl, rfl⟩
theorem bytesLess_lexc (l m : List UInt8) (ds es : List Nat) (hl : l.map UInt8.toNat = ds.map (fun d => 48 + d)) (hm : m.map UInt8.toNat = es.map (fun d => 48 + d))
    (hd : ∀ d ∈ ds, d < 10) (he : ∀ d ∈ es, d < 10) : Op.bytesLess l m = decide (lexc ds es < 0) := by
  induction ds generalizing l m es with
  | nil =>
    obtain rfl : l = [] := by simpa using hl
    rcases es with _ | ⟨e, q⟩
    · obtain rfl : m = [] := by simpa using hm
      rfl
    · rcases m with _ | ⟨b, m⟩
      · simp at hm
      · simp [Op.bytesLess, lexc]
  | cons d r ih =>
    rcases l with _ | ⟨a, l⟩
    · simp at hl
    rcases es with _ | ⟨e, q⟩
    · obtain rfl : m = [] := by simpa using hm
      simp [Op.bytesLess, lexc]
    rcases m with _ | ⟨b, m⟩
    · simp at hm
    simp only [List.map_cons, List.cons.injEq] at hl hm
    have ih' := ih l m q hl.2 hm.2 (fun x hx => hd x (by simp [hx])) (fun x hx => he x (by simp [hx]))
    have ea : (a < b) ↔ d < e := by rw [UInt8.lt_iff_toNat_lt, hl.1, hm.1]; omega
    have eb : (a == b) = decide (d = e) := by
      rw [Bool.eq_iff_iff]
      simp only [beq_iff_eq, decide_eq_true_eq]
      rw [← UInt8.toNat_inj, hl.1, hm.1]; omega
    simp only [Op.bytesLess, ih', eb, lexc]
    rcases Nat.lt_trichotomy d e with h | h | h
    · simp [ea.2 h, h]
    · subst h
      have : ¬ a < b := fun hh => by have := ea.1 hh; omega
      simp [this]
    · have h5 : ¬ a < b := fun hh => by have := ea.1 hh; omega
      have h6 : ¬ d = e := by omega
      have h7 : ¬ d < e := by omega
      simp [h5, h6, h7, h]
theorem lexc_turn (ds es : List Nat) : lexc es ds = -lexc ds es := by
  induction ds generalizing es with
  | nil => cases es <;> simp [lexc]
  | cons a x ih =>
    rcases es with _ | ⟨b, y⟩
    · simp [lexc]
    · simp only [lexc, ih y]
      rcases Nat.lt_trichotomy a b with h | h | h
      · rw [if_neg (by omega), if_pos h, if_pos h]; rfl
      · subst h; simp
      · rw [if_pos h, if_neg (by omega), if_pos h]
theorem lexc_cases (ds es : List Nat) : lexc ds es = -1 ∨ lexc ds es = 0 ∨ lexc ds es = 1 := by
  induction ds generalizing es with
  | nil => cases es <;> simp [lexc]
  | cons a x ih =>
    rcases es with _ | ⟨b, y⟩
    · simp [lexc]
    · simp only [lexc]
      split
      · simp
      · split
        · simp
        · exact ih y
theorem lexc_self (ds : List Nat) : lexc ds ds = 0 := by
  induction ds with
  | nil => rfl
  | cons a x ih => simp [lexc, ih]
theorem lexc_zero {ds es : List Nat} (h : lexc ds es = 0) : ds = es := by
  induction ds generalizing es with
  | nil => cases es <;> simp [lexc] at h ⊢
  | cons a x ih =>
    rcases es with _ | ⟨b, y⟩
    · simp [lexc] at h
    · simp only [lexc] at h
      split at h
      · omega
      · split at h
        · omega
        · obtain rfl : a = b := by omega
          rw [ih h]
set_option maxHeartbeats 800000 in
theorem compareStr_c (s t : ByteArray) (ds es : List Nat) (w : World) (h : IsD s ds) (h' : IsD t es) :
    Calls Tryd.prog 46 #[.string s, .string t] w fun e w' => e = .returned (.int .i64 (lexc ds es)) ∧ w = w' := by
  have e1 := bytesLess_lexc s.toList t.toList ds es h.list h'.list h.2 h'.2
  have e2 := bytesLess_lexc t.toList s.toList es ds h'.list h.list h'.2 h.2
  rw [lexc_turn] at e2
  rcases lexc_cases ds es with hc | hc | hc
  · rw [hc] at e1 e2 ⊢
    have f1 : Op.bytesLess s.toList t.toList = true := e1
    have f2 : Op.bytesLess t.toList s.toList = false := e2
    clear e1 e2 hc h h'
    go_enter Tryd.func46, Tryd.ntmps46
    go_wp2
    go_ret
    exact ⟨rfl, rfl⟩
  · obtain rfl := lexc_zero hc
    obtain rfl := IsD.ext h h'
    rw [hc] at e1 ⊢
    have f1 : Op.bytesLess s.toList s.toList = false := e1
    clear e1 e2 hc h h'
    go_enter Tryd.func46, Tryd.ntmps46
    go_wp2
    go_ret
    exact ⟨rfl, rfl⟩
  · have hne : ¬ s.toList = t.toList := fun e => by
      have e3 : s = t := by rw [ByteArray.toList_eq, ByteArray.toList_eq] at e; cases s; cases t; simp at e; rw [e]
      subst e3
      rw [h.inj h', lexc_self] at hc
      omega
    have f3 : (!s.toList == t.toList) = true := by simpa using hne
    rw [hc] at e1 e2 ⊢
    have f1 : Op.bytesLess s.toList t.toList = false := e1
    have f2 : Op.bytesLess t.toList s.toList = true := e2
    clear e1 e2 hc h h' hne
    go_enter Tryd.func46, Tryd.ntmps46
    go_wp2
    go_ret
    exact ⟨rfl, rfl⟩
/-- A decimal that may be handed in: its digits, its exponent (B: a bound), its coefficient. -/
structure DA (B : Nat) (s : ByteArray) (e : Int) (N : Nat) : Prop where
  isD : ∃ ds, IsD s ds ∧ dval ds = N
  pos : 0 < s.size
  len : s.size ≤ 5000
  lo : -(B : Int) ≤ e
  hi : e ≤ (B : Int)
theorem DA.declen {B : Nat} {s : ByteArray} {e : Int} {N : Nat} (h : DA B s e N) : (decs N).length ≤ 5000 := by
  obtain ⟨ds, hd, rfl⟩ := h.isD
  have := decs_dval_length ds hd.2
  have := hd.size
  have := h.len
  omega
theorem nq_len (n : Nat) : (decs (nq n)).length ≤ (decs n).length := decs_length_le (nq_le n)
theorem tz_len (n : Nat) : tz10 n ≤ (decs n).length := by
  by_cases h : n = 0
  · subst h; simp [tz10_zero]
  · have := decs_len_tz h; omega
theorem nstr_size (n : Nat) : (nstr n).size ≤ (decs n).length + 1 := by
  rw [(isD_nstr n).size]
  have := nq_len n
  unfold orZero
  split <;> simp <;> omega
theorem dval_orZero' (ds : List Nat) : dval (orZero ds) = dval ds := by cases ds <;> rfl
theorem DA.norm {B : Nat} {s : ByteArray} {e : Int} {N : Nat} (h : DA B s e N) : DA (B + 5000) (nstr N) (nexp N e) (nq N) := by
  have h1 := h.declen
  refine ⟨⟨_, isD_nstr N, by rw [dval_orZero', dval_decs]⟩, nstr_pos N, ?_, ?_, ?_⟩
  · rw [(isD_nstr N).size]
    have := nq_len N
    unfold orZero
    split <;> simp <;> omega
  · have := h.lo
    have := tz_len N
    unfold nexp; split <;> omega
  · have := h.hi
    have := tz_len N
    unfold nexp; split <;> omega
theorem DA.mono {B B' : Nat} {s : ByteArray} {e : Int} {N : Nat} (h : DA B s e N) (hB : B ≤ B') : DA B' s e N :=
  ⟨h.isD, h.pos, h.len, by have := h.lo; omega, by have := h.hi; omega⟩
set_option maxHeartbeats 800000 in
set_option maxRecDepth 100000 in
theorem decCoef_c (B : Nat) (n : Bool) (s : ByteArray) (e : Int) (N : Nat) (w : World) (h : DA B s e N) (hP : Pw w) :
    Calls Tryd.prog 18 #[.agg #[.bool n, .string s, .int .i64 e]] w fun r w' => ∃ A m c, r = .returned (.slice A m c) ∧ OwnS w' w.heap.size A m c (digs 1000000000 N) ∧ Below w.heap.size w w' := by
  obtain ⟨ds, hd, hv⟩ := h.isD
  have hb0 := (Below.refl w.heap.size w).alloc (Nat.le_refl _) (.cells #[.bool n, .string s, .int .i64 e] 23)
  have CN := tenNumber_ok s ds (w.alloc (.cells #[.bool n, .string s, .int .i64 e] 23)) hd (Nat.le_trans h.len (by omega)) h.pos (hP.below hb0)
  rw [hv] at CN
  have HCN := Lib.hid CN
  have HB0 := Lib.hid hb0
  clear CN h hP hb0 hd hv
  go_enter Tryd.func18, Tryd.ntmps18
  go_wp2_with (go_at_call 28; refine HCN.out.mono ?_; rintro r w1 ⟨A, m, c, rfl, ho, hb⟩; have HO := Lib.hid ho; have HB := Lib.hid hb; clear ho hb HCN)
  go_ret
  exact ⟨A, m, c, rfl, HO.out.weaken HB0.out.size, HB0.out.trans (HB.out.mono HB0.out.size)⟩
theorem zero_len {N m : Nat} (h : (digs 1000000000 N).length = m) : ((m : Int) == 0) = decide (N = 0) := by
  have := digs_length_zero 1000000000 (by omega) N
  rw [h] at this
  rw [Bool.eq_iff_iff]
  simp only [beq_iff_eq, decide_eq_true_eq]
  omega
set_option maxHeartbeats 800000 in
set_option maxRecDepth 100000 in
theorem decZero_c (B : Nat) (n : Bool) (s : ByteArray) (e : Int) (N : Nat) (w : World) (h : DA B s e N) (hP : Pw w) :
    Calls Tryd.prog 15 #[.agg #[.bool n, .string s, .int .i64 e]] w fun r w' => r = .returned (.bool (decide (N = 0))) ∧ Below w.heap.size w w' := by
  have hb0 := (Below.refl w.heap.size w).alloc (Nat.le_refl _) (.cells #[.bool n, .string s, .int .i64 e] 23)
  have HCN := Lib.hid (decCoef_c B n s e N (w.alloc (.cells #[.bool n, .string s, .int .i64 e] 23)) h (hP.below hb0))
  have HB0 := Lib.hid hb0
  clear h hP hb0
  go_enter Tryd.func15, Tryd.ntmps15
  go_wp2_with (go_at_call 18; refine HCN.out.mono ?_; rintro r w1 ⟨A, m, c, rfl, ho, hb⟩; have hm := zero_len ho.len; have HB := Lib.hid hb; clear ho hb HCN)
  go_ret
  exact ⟨rfl, HB0.out.trans (HB.out.mono HB0.out.size)⟩
set_option maxHeartbeats 800000 in
set_option maxRecDepth 100000 in
theorem decFirst_c (n : Bool) (s : ByteArray) (e : Int) (w : World) (hs : s.size ≤ 1000000) (h1 : -1000000000000 ≤ e) (h2 : e ≤ 1000000000000) :
    Calls Tryd.prog 32 #[.agg #[.bool n, .string s, .int .i64 e]] w fun r w' => r = .returned (.int .i64 (e + (s.size : Int) - 1)) ∧ Below w.heap.size w w' := by
  go_enter Tryd.func32, Tryd.ntmps32
  go_wp2
  go_ret
  exact ⟨rfl, (Below.refl w.heap.size w).alloc (Nat.le_refl _) _⟩
end Go.Proofs.YtijalgngcbifgaaDoor
