/-
  PE: the program's elements: which sort they are of, and rows of them.
-/
import Derived.Test.YtbjelkejifgnfaaGreatDoorPU
import Derived.Deep.DeepCutAuto
import Derived.Test.YtbjelkejifgnfaaGreatDoorME
set_option maxRecDepth 100000
namespace Go.Proofs.YtbjelkejifgnfaaGreatDoor
open Go.RowKit
/-- Is it one of the characters? -/
def cls (s : ByteArray) (e : El) : Bool := !e.2 && (!e.1.2.1 && inS8 s e.1.1.toNat)
def rowB : ByteArray := ⟨#[35, 48, 49, 50, 51, 52, 53, 54, 55, 56, 57, 64, 44, 46]⟩
theorem lo_row : ∀ b ∈ bts rowB, b < 128 := lo_lit (by decide)
theorem isZ_form {r : Int} (h : isZ r = true) : ∃ x : Nat, r = (x : Int) ∧ x ≤ 1114111 := by
  have := isZ_iff.1 h
  exact ⟨r.toNat, by omega, by omega⟩
theorem okB_iff16 {x : Nat} : okB x = true ↔ ((48 ≤ x ∧ x ≤ 57) ∨ x = 35 ∨ x = 64 ∨ x = 44 ∨ x = 46) := by
  simp only [okB, dg, h35, a64, Bool.or_eq_true, Bool.and_eq_true, decide_eq_true_iff, beq_iff_eq]
  omega
theorem cls_row {e : El} (h : isZ e.1.1 = true) : cls rowB e = bdy e := by
  obtain ⟨x, hx, -⟩ := isZ_form h
  rw [cls, bdy, hx, rowB, in_okB, Int.toNat_natCast]
  congr 2
  rw [Bool.eq_iff_iff, bdC, decide_eq_true_iff]
  rw [okB_iff16]
  omega
theorem cls_one (c : UInt8) {e : El} (h : isZ e.1.1 = true) : cls ⟨#[c]⟩ e = plE (c.toNat : Int) e := by
  obtain ⟨x, hx, -⟩ := isZ_form h
  rw [cls, plE, hx, in_one, Int.toNat_natCast]
  congr 2
  rw [Bool.eq_iff_iff, beq_iff_eq, decide_eq_true_iff]
  omega
theorem dw_congr {α : Type} {p q : α → Bool} {l : List α} (h : ∀ e ∈ l, p e = q e) : l.dropWhile p = l.dropWhile q := by
  induction l with
  | nil => rfl
  | cons x l ih =>
    rw [List.dropWhile_cons, List.dropWhile_cons, h x (by simp), ih fun e he => h e (List.mem_cons_of_mem _ he)]
theorem tw_congr {α : Type} {p q : α → Bool} {l : List α} (h : ∀ e ∈ l, p e = q e) : l.takeWhile p = l.takeWhile q := by
  induction l with
  | nil => rfl
  | cons x l ih =>
    rw [List.takeWhile_cons, List.takeWhile_cons, h x (by simp), ih fun e he => h e (List.mem_cons_of_mem _ he)]
set_option maxHeartbeats 1000000 in
theorem spl_c (x : Nat) (a : Int) (q : Bool) (s : ByteArray) (w : World) (ha : ∀ b ∈ bts s, b < 128) (hs : s.size ≤ 1000) (hx : x ≤ 1114111) :
    Calls Tryz.prog 55 #[.agg #[.int .i32 (x : Int), .bool q, .int .i64 a], .string s] w fun e w' => e = .returned (.bool (!q && inS8 s x)) ∧ Below w.heap.size w w' := by
  have HC := Lib.hid (fun W => containsRune_c s x W ha hx hs)
  have HB0 := Lib.hid (below_new w (.cells #[.int .i32 (x : Int), .bool q, .int .i64 a] 110))
  clear ha
  cases q
  · go_enter Tryz.func55, Tryz.ntmps55
    go_wp2_with (first
      | (go_at_call 72; refine (HC.out _).mono ?_; rintro e w' ⟨rfl, hb⟩)
      | fail)
    go_ret
    exact ⟨rfl, HB0.out.trans (hb.mono HB0.out.size)⟩
  · go_enter Tryz.func55, Tryz.ntmps55
    go_wp2
    go_ret
    exact ⟨rfl, HB0.out⟩
set_option maxHeartbeats 1000000 in
theorem ppl_c (r a : Int) (s : ByteArray) (w : World) :
    Calls Tryz.prog 170 #[.agg #[.int .i32 r, .int .i64 a], .string s] w fun e w' => e = .returned (.bool false) ∧ Below w.heap.size w w' := by
  go_enter Tryz.func170, Tryz.ntmps170
  go_wp2
  go_ret
  exact ⟨rfl, by go_grown⟩
theorem splace_c (r a : Int) (q : Bool) (w : World) :
    Calls Tryz.prog 168 #[.agg #[.int .i32 r, .bool q, .int .i64 a]] w fun e w' => e = .returned (.int .i64 a) ∧ Below w.heap.size w w' := by
  go_enter Tryz.func168, Tryz.ntmps168
  go_wp2
  go_ret
  exact ⟨rfl, by go_grown⟩
theorem pplace_c (r a : Int) (w : World) :
    Calls Tryz.prog 169 #[.agg #[.int .i32 r, .int .i64 a]] w fun e w' => e = .returned (.int .i64 a) ∧ Below w.heap.size w w' := by
  go_enter Tryz.func169, Tryz.ntmps169
  go_wp2
  go_ret
  exact ⟨rfl, by go_grown⟩
set_option maxHeartbeats 1000000 in
theorem of16_c (s : ByteArray) (w : World) : Calls Tryz.prog 39 #[.string s] w fun e w' => ∃ B, e = .returned (.func (.func 56) #[] #[.pointer (some ⟨B, 0, none⟩)]) ∧ B < w'.heap.size ∧ Hid (w'.cell? ⟨B, 0, none⟩ = some (.string s)) ∧ Below w.heap.size w w' := by
  go_enter Tryz.func39, Tryz.ntmps39
  go_wp2
  go_ret
  exact ⟨_, rfl, by simp, Lib.hid (by simp), (Below.refl _ w).alloc (Nat.le_refl _) _⟩
set_option maxHeartbeats 1000000 in
theorem of1_c (e : El) (s : ByteArray) (B : Nat) (w : World) (hz : isZ e.1.1 = true) (ha : ∀ b ∈ bts s, b < 128) (hs : s.size ≤ 1000) (hc : w.cell? ⟨B, 0, none⟩ = some (.string s)) :
    Calls Tryz.prog 56 #[pE e, .pointer (some ⟨B, 0, none⟩)] w fun x w' => x = .returned (.bool (cls s e)) ∧ Below w.heap.size w w' := by
  obtain ⟨⟨r, q, a⟩, p⟩ := e
  obtain ⟨x, rfl, hx⟩ := isZ_form hz
  clear hz
  cases p
  · have HC := Lib.hid (fun W => spl_c x a q s W ha hs hx)
    have HP : Hid (cls s (((x : Int), q, a), false) = (!q && inS8 s x)) := Lib.hid rfl
    rw [pE_s, HP.out]
    clear ha HP
    generalize (!q && inS8 s x) = y at *
    go_enter Tryz.func56, Tryz.ntmps56
    go_wp2_with (first
      | (go_at_call 55; refine (HC.out _).mono ?_; rintro e w' ⟨rfl, hb⟩)
      | fail)
    go_ret
    exact ⟨rfl, hb⟩
  · have HP : Hid (cls s (((x : Int), q, a), true) = false) := Lib.hid rfl
    rw [pE_p, HP.out]
    clear ha HP
    go_enter Tryz.func56, Tryz.ntmps56
    go_wp2_with (first
      | (go_at_call 170; refine (ppl_c _ _ _ _).mono ?_; rintro e w' ⟨rfl, hb⟩)
      | fail)
    go_ret
    exact ⟨rfl, hb⟩
set_option maxHeartbeats 1000000 in
theorem row1_c (e : El) (w : World) (hz : isZ e.1.1 = true) :
    Calls Tryz.prog 99 #[pE e] w fun x w' => x = .returned (.bool (!cls rowB e)) ∧ Below w.heap.size w w' := by
  obtain ⟨⟨r, q, a⟩, p⟩ := e
  obtain ⟨x, rfl, hx⟩ := isZ_form hz
  clear hz
  cases p
  · have HC := Lib.hid (fun W => spl_c x a q rowB W lo_row (by decide) hx)
    have HP : Hid (cls rowB (((x : Int), q, a), false) = (!q && inS8 rowB x)) := Lib.hid rfl
    rw [pE_s, HP.out]
    clear HP
    generalize (!q && inS8 rowB x) = y at *
    unfold rowB at HC
    go_enter Tryz.func99, Tryz.ntmps99
    go_wp2_with (first
      | (go_at_call 55; refine (HC.out _).mono ?_; rintro e w' ⟨rfl, hb⟩)
      | fail)
    go_ret
    exact ⟨rfl, hb⟩
  · have HP : Hid (cls rowB (((x : Int), q, a), true) = false) := Lib.hid rfl
    rw [pE_p, HP.out]
    clear HP
    go_enter Tryz.func99, Tryz.ntmps99
    go_wp2_with (first
      | (go_at_call 170; refine (ppl_c _ _ _ _).mono ?_; rintro e w' ⟨rfl, hb⟩)
      | fail)
    go_ret
    exact ⟨rfl, hb⟩
/-- 'upTo' at the sort of some characters, and at what is no character of a number's row. -/
theorem upToOf_c (s : ByteArray) (P : El → Bool) (B : Nat) {D : Nat} (A : Option Addr) (n c : Nat) (es : List El) (w : World) (h : Pls w D A n es) (hc : Cp A n c) (ha : ∀ b ∈ bts s, b < 128) (hs : s.size ≤ 1000) (hP : ∀ e ∈ es, cls s e = P e)
    (hB : B < w.heap.size) (hb : w.cell? ⟨B, 0, none⟩ = some (.string s)) :
    Calls Tryz.prog 38 #[.slice A n c, .func (.func 56) #[] #[.pointer (some ⟨B, 0, none⟩)]] w fun x w' =>
      ∃ A1 n1 c1 A2 n2 c2, x = .returned (.tuple #[.slice A1 n1 c1, .slice A2 n2 c2]) ∧ Hid (Pls w' D A1 n1 (es.takeWhile fun e => !P e)) ∧ Hid (Pls w' D A2 n2 (es.dropWhile fun e => !P e)) ∧ Cp A1 n1 c1 ∧ Cp A2 n2 c2 ∧ Hid (Below w.heap.size w w') :=
  upToOf_h B P A n c es w h hc fun e he W hW => by rw [← hP e he]; exact of1_c e s B W (h.z e he) ha hs ((hW.cell (p := ⟨B, 0, none⟩) hB).trans hb)
theorem upToRow_c {D : Nat} (A : Option Addr) (n c : Nat) (es : List El) (w : World) (h : Pls w D A n es) (hc : Cp A n c) :
    Calls Tryz.prog 38 #[.slice A n c, .func (.func 99) #[] #[]] w fun x w' =>
      ∃ A1 n1 c1 A2 n2 c2, x = .returned (.tuple #[.slice A1 n1 c1, .slice A2 n2 c2]) ∧ Hid (Pls w' D A2 n2 (es.dropWhile bdy)) ∧ Cp A2 n2 c2 ∧ Hid (Below w.heap.size w w') := by
  refine (upToRow_h (fun e => !bdy e) A n c es w h hc fun e he W _ => by
    have := row1_c e W (h.z e he)
    rwa [cls_row (h.z e he)] at this).mono ?_
  rintro e w' ⟨A1, n1, c1, A2, n2, c2, rfl, -, h2, -, hc2, hb⟩
  simp only [Bool.not_not] at h2
  exact ⟨_, _, _, _, _, _, rfl, h2, hc2, hb⟩
set_option maxHeartbeats 1000000 in
theorem behindRow_c {D : Nat} (A : Option Addr) (n c : Nat) (es : List El) (w : World) (h : Pls w D A n es) (hc : Cp A n c) :
    Calls Tryz.prog 73 #[.slice A n c] w fun x w' => ∃ A2 n2 c2, x = .returned (.slice A2 n2 c2) ∧ Hid (Pls w' D A2 n2 (es.dropWhile bdy)) ∧ Cp A2 n2 c2 ∧ Hid (Below w.heap.size w w') := by
  have HC := Lib.hid (upToRow_c A n c es w h hc)
  clear h
  go_enter Tryz.func73, Tryz.ntmps73
  go_wp2_with (first
    | (go_at_call 38; refine HC.out.mono ?_; rintro e w' ⟨A1, n1, c1, A2, n2, c2, rfl, h2, hc2, hb⟩)
    | fail)
  go_ret
  exact ⟨_, _, _, rfl, h2, hc2, hb⟩
/-- Does the list begin with such an element? -/
def hdE (P : El → Bool) (es : List El) : Bool := (es.take 1).any P
set_option maxHeartbeats 1000000 in
theorem begins_c (s : ByteArray) (P : El → Bool) {D : Nat} (A : Option Addr) (n c : Nat) (es : List El) (w : World) (h : Pls w D A n es) (ha : ∀ b ∈ bts s, b < 128) (hs : s.size ≤ 1000) (hP : ∀ e ∈ es, cls s e = P e) :
    Calls Tryz.prog 74 #[.slice A n c, .string s] w fun x w' => x = .returned (.bool (hdE P es)) ∧ Below w.heap.size w w' := by
  have hl := h.len
  cases es with
  | nil =>
    obtain rfl : n = 0 := hl.symm
    clear h ha hP
    go_enter Tryz.func74, Tryz.ntmps74
    go_wp2
    go_ret
    exact ⟨rfl, Below.refl _ _⟩
  | cons e es =>
    have hn0 : 0 < n := by rw [← hl]; simp
    obtain ⟨ad, rfl, hb, c0, hz⟩ := h.at_ hn0
    have g1 : decide ((0 : Int) < (n : Int)) = true := decide_eq_true (by omega)
    have e0 : el4 (e :: es) 0 = e := rfl
    rw [e0] at c0 hz
    change w.cell? ad = _ at c0
    have HPe : Hid (hdE P (e :: es) = P e) := Lib.hid (by simp [hdE])
    rw [HPe.out, ← hP e (by simp)]
    clear HPe hP h hl e0
    obtain ⟨⟨r, q, a⟩, p⟩ := e
    obtain ⟨x, rfl, hx⟩ := isZ_form hz
    clear hz
    cases p
    · have HC := Lib.hid (fun W => spl_c x a q s W ha hs hx)
      have HP : Hid (cls s (((x : Int), q, a), false) = (!q && inS8 s x)) := Lib.hid rfl
      rw [pE_s] at c0
      rw [HP.out]
      clear ha HP
      generalize (!q && inS8 s x) = y at *
      go_enter Tryz.func74, Tryz.ntmps74
      go_wp2_with (first
        | (go_at_call 55; refine (HC.out _).mono ?_; rintro e w' ⟨rfl, hb⟩)
        | fail)
      go_ret
      exact ⟨rfl, hb⟩
    · have HP : Hid (cls s (((x : Int), q, a), true) = false) := Lib.hid rfl
      rw [pE_p] at c0
      rw [HP.out]
      clear ha HP
      go_enter Tryz.func74, Tryz.ntmps74
      go_wp2_with (first
        | (go_at_call 170; refine (ppl_c _ _ _ _).mono ?_; rintro e w' ⟨rfl, hb⟩)
        | fail)
      go_ret
      exact ⟨rfl, hb⟩
/-- What is left of a list behind its first element: 'list[1:]'. -/
theorem Pls.tail {w : World} {D : Nat} {ad : Addr} {n : Nat} {e : El} {es : List El} (h : Pls w D (some ad) n (e :: es)) : Pls w D (some (ad.add 1)) (n - 1) es ∧ (n = 1 → es = []) := by
  have hl := h.len
  refine ⟨?_, fun h1 => ?_⟩
  · rcases Nat.lt_or_ge 1 n with h1 | h1
    · exact h.drop h1
    · have : es = [] := by simp at hl; exact List.eq_nil_of_length_eq_zero (by omega)
      subst this
      rw [show n - 1 = 0 by omega]
      exact h.nil _
  · simp at hl; exact List.eq_nil_of_length_eq_zero (by omega)
theorem pls_none {w : World} {D : Nat} {A : Option Addr} {n : Nat} {e : El} {es : List El} (h : Pls w D A n (e :: es)) : ∃ ad, A = some ad ∧ 0 < n := by
  have hl := h.len
  have h0 : 0 < n := by rw [← hl]; simp
  obtain ⟨ad, e, _⟩ := h.at_ h0
  exact ⟨ad, e, h0⟩
end Go.Proofs.YtbjelkejifgnfaaGreatDoor
