/-
  GC: what the parts are, plain; answers.
-/
import Derived.Test.YtiflkkmeloclfaaGB
set_option maxRecDepth 100000
namespace Go.Proofs.Ytiflkkmeloclfaa
open Go.RowKit
theorem ext_size {s : ByteArray} {i j : Nat} (hj : j ≤ s.size) : (s.extract i j).size = j - i := by rw [ByteArray.size_extract]; omega
theorem splG_one {s : ByteArray} {P Q : Nat} (h : s.size ≤ P) : splG s (P : Int) (Q : Int) = [s] := by rw [splG, if_pos (.inr (by omega))]
theorem splG_more {s : ByteArray} {P Q : Nat} (hP : 1 ≤ P) (h : P < s.size) : splG s (P : Int) (Q : Int) = bkG s (if Q = 0 then P else Q) (s.size - P) ++ [s.extract (s.size - P) s.size] := by
  rw [splG, if_neg (by omega)]
  cases Q with
  | zero => simp
  | succ n => rw [if_neg (by omega), if_neg (by omega)]; rfl
/-- The parts of the first e bytes: the first one has q at most, all others q. -/
theorem bkG_form {s : ByteArray} {q : Nat} (hq : 1 ≤ q) (e : Nat) (he : 1 ≤ e) (hs : e ≤ s.size) :
    ∃ x ys, bkG s q e = x :: ys ∧ 1 ≤ x.size ∧ x.size ≤ q ∧ (∀ y ∈ ys, y.size = q) ∧ ((x :: ys).map bts).flatten = (bts s).take e := by
  induction e using Nat.strongRecOn with
  | _ e ih =>
    by_cases h : e ≤ q
    · refine ⟨s.extract 0 e, [], bkG_last h, ?_, ?_, fun y hy => (List.not_mem_nil hy).elim, ?_⟩
      · rw [ext_size hs]; omega
      · rw [ext_size hs]; omega
      · simp [bts_upto]
    · obtain ⟨x, ys, e1, h1, h2, h3, h4⟩ := ih (e - q) (by omega) (by omega) (by omega)
      refine ⟨x, ys ++ [s.extract (e - q) e], by rw [bkG_more hq (by omega), e1]; rfl, h1, h2, ?_, ?_⟩
      · intro y hy
        rcases List.mem_append.1 hy with h' | h'
        · exact h3 y h'
        · rw [List.mem_singleton.1 h', ext_size hs]; omega
      · rw [← List.cons_append, List.map_append, List.flatten_append, h4]
        simp only [List.map_cons, List.map_nil, List.flatten_cons, List.flatten_nil, List.append_nil, bts_extract]
        have := List.take_append_drop (e - q) ((bts s).take e)
        rw [List.take_take, Nat.min_eq_left (by omega)] at this
        exact this
theorem joinB_nil (l : List ByteArray) : joinB l ⟨#[]⟩ = (l.map bts).flatten := by
  cases l with
  | nil => rfl
  | cons a r =>
    have : (fun y => bts (⟨#[]⟩ : ByteArray) ++ bts y) = bts := by funext y; rfl
    simp only [joinB, this, List.map_cons, List.flatten_cons]
/-- The parts of a text that has more bytes than P. -/
theorem splG_form {s : ByteArray} {P Q : Nat} (hP : 1 ≤ P) (hQ : 1 ≤ Q) (h : P < s.size) :
    ∃ x ys z, splG s (P : Int) (Q : Int) = x :: (ys ++ [z]) ∧ 1 ≤ x.size ∧ x.size ≤ Q ∧ (∀ y ∈ ys, y.size = Q) ∧ z.size = P ∧ joinB (x :: (ys ++ [z])) ⟨#[]⟩ = bts s := by
  rw [splG_more hP h, if_neg (by omega)]
  obtain ⟨x, ys, e1, h1, h2, h3, h4⟩ := bkG_form (s := s) hQ (s.size - P) (by omega) (by omega)
  refine ⟨x, ys, s.extract (s.size - P) s.size, by rw [e1]; rfl, h1, h2, h3, ?_, ?_⟩
  · rw [ext_size (Nat.le_refl _)]; omega
  · rw [joinB_nil, ← List.cons_append, List.map_append, List.flatten_append, h4]
    simp only [List.map_cons, List.map_nil, List.flatten_cons, List.flatten_nil, List.append_nil, bts_from]
    exact List.take_append_drop _ _
theorem bkG_size {s : ByteArray} {q : Nat} (hq : 1 ≤ q) (e : Nat) (hs : e ≤ s.size) : ∀ x ∈ bkG s q e, x.size ≤ s.size := by
  induction e using Nat.strongRecOn with
  | _ e ih =>
    intro x hx
    by_cases h : e ≤ q
    · rw [bkG_last h, List.mem_singleton] at hx
      rw [hx, ext_size hs]; omega
    · rw [bkG_more hq (by omega)] at hx
      rcases List.mem_append.1 hx with h' | h'
      · exact ih (e - q) (by omega) (by omega) x h'
      · rw [List.mem_singleton.1 h', ext_size hs]; omega
theorem splG_size (s : ByteArray) {P Q : Nat} (hP : 1 ≤ P) : ∀ x ∈ splG s (P : Int) (Q : Int), x.size ≤ s.size := by
  intro x hx
  by_cases h : s.size ≤ P
  · rw [splG_one h, List.mem_singleton] at hx
    rw [hx]; exact Nat.le_refl _
  · rw [splG_more hP (by omega)] at hx
    rcases List.mem_append.1 hx with h' | h'
    · exact bkG_size (by split <;> omega) _ (by omega) x h'
    · rw [List.mem_singleton.1 h', ext_size (Nat.le_refl _)]; omega
theorem app_ext (a b : ByteArray) (i j : Nat) : (a ++ b).extract (a.size + i) (a.size + j) = b.extract i j := by
  apply bts_inj
  rw [bts_extract, bts_extract, bts_append, List.take_append, List.drop_append, bts_length]
  simp [bts_length]
theorem ext_back {s : ByteArray} {i k j : Nat} (h : i ≤ k) (hk : k ≤ j) (hj : j ≤ s.size) : (s.extract i j).extract ((s.extract i j).size - (s.extract k j).size) (s.extract i j).size = s.extract k j := by
  rw [ext_size hj, ext_size hj]
  apply bts_inj
  rw [bts_extract, bts_extract, bts_extract, List.take_of_length_le (by rw [List.length_drop, List.length_take, bts_length]; omega), List.drop_drop]
  congr 1
  omega
/-- x stands at the end of y. -/
def EndsG (y x : ByteArray) : Prop := x.size ≤ y.size ∧ y.extract (y.size - x.size) y.size = x
/-- The same parts but the first one, of a text with more bytes ahead. -/
def MoreG (a : ByteArray) (l k : List ByteArray) : Prop := ∃ x ys x' zs, l = x :: ys ∧ k = zs ++ x' :: ys ∧ EndsG x' x ∧ (a.size = 0 → zs = [])
theorem bkG_moreG (a b : ByteArray) {q : Nat} (hq : 1 ≤ q) (e : Nat) (he : 1 ≤ e) (hb : e ≤ b.size) : MoreG a (bkG b q e) (bkG (a ++ b) q (a.size + e)) := by
  have hz : (a ++ b).size = a.size + b.size := ByteArray.size_append
  induction e using Nat.strongRecOn with
  | _ e ih =>
    by_cases h : e ≤ q
    · rw [bkG_last h]
      have h0 : b.extract 0 e = (a ++ b).extract a.size (a.size + e) := by have := app_ext a b 0 e; rw [Nat.add_zero] at this; exact this.symm
      by_cases h2 : a.size + e ≤ q
      · rw [bkG_last h2, h0]
        refine ⟨_, [], _, [], rfl, rfl, ⟨?_, ext_back (Nat.zero_le _) (by omega) (by omega)⟩, fun _ => rfl⟩
        rw [ext_size (by omega), ext_size (by omega)]; omega
      · rw [bkG_more hq (by omega), h0]
        refine ⟨_, [], _, _, rfl, rfl, ⟨?_, ext_back (by omega) (by omega) (by omega)⟩, fun h' => by omega⟩
        rw [ext_size (by omega), ext_size (by omega)]; omega
    · obtain ⟨x, ys, x', zs, e1, e2, h1, h2⟩ := ih (e - q) (by omega) (by omega) (by omega)
      rw [bkG_more hq (show q < e by omega), bkG_more hq (show q < a.size + e by omega), show a.size + e - q = a.size + (e - q) by omega, app_ext, e1, e2]
      exact ⟨x, ys ++ [b.extract (e - q) e], x', zs, rfl, by simp, h1, h2⟩
theorem splG_moreG (a b : ByteArray) {P Q : Nat} (hP : 1 ≤ P) (hb : 1 ≤ b.size) : MoreG a (splG b (P : Int) (Q : Int)) (splG (a ++ b) (P : Int) (Q : Int)) := by
  have hz : (a ++ b).size = a.size + b.size := ByteArray.size_append
  by_cases h : b.size ≤ P
  · have h0 : b = (a ++ b).extract a.size (a.size + b.size) := by have := app_ext a b 0 b.size; rw [Nat.add_zero, ext_all] at this; exact this.symm
    rw [splG_one h]
    by_cases h2 : (a ++ b).size ≤ P
    · rw [splG_one h2]
      refine ⟨_, [], _, [], rfl, rfl, ⟨by omega, ?_⟩, fun _ => rfl⟩
      rw [hz, show a.size + b.size - b.size = a.size by omega]; exact h0.symm
    · rw [splG_more hP (by omega)]
      refine ⟨_, [], _, _, rfl, rfl, ?_, fun h' => by omega⟩
      have := ext_back (s := a ++ b) (i := (a ++ b).size - P) (k := a.size) (j := (a ++ b).size) (by omega) (by omega) (Nat.le_refl _)
      refine ⟨by rw [ext_size (Nat.le_refl _)]; omega, ?_⟩
      rw [← hz] at h0
      rw [← h0] at this
      exact this
  · rw [splG_more hP (show P < b.size by omega), splG_more hP (show P < (a ++ b).size by omega)]
    obtain ⟨x, ys, x', zs, e1, e2, h1, h2⟩ := bkG_moreG a b (q := if Q = 0 then P else Q) (by split <;> omega) (b.size - P) (by omega) (by omega)
    rw [hz, show a.size + b.size - P = a.size + (b.size - P) by omega, app_ext, e1, e2]
    exact ⟨x, ys ++ [b.extract (b.size - P) b.size], x', zs, rfl, by simp, h1, h2⟩
/-- What answers asks of its text. -/
theorem spl_ex : splG ⟨#[49, 50, 51, 52, 53, 54, 55]⟩ 3 2 = [⟨#[49, 50]⟩, ⟨#[51, 52]⟩, ⟨#[53, 54, 55]⟩] := by
  have e := splG_more (s := ⟨#[49, 50, 51, 52, 53, 54, 55]⟩) (P := 3) (Q := 2) (by decide) (by decide)
  rw [if_neg (by decide), bkG_more (by decide) (by decide), bkG_last (by decide)] at e
  exact e
set_option maxHeartbeats 2000000 in
theorem answers20_c (w : World) : Calls Try.prog 7 #[] w fun e w' => e = .returned (.bool true) ∧ Below w.heap.size w w' := by
  have C := gsplit_c ⟨#[49, 50, 51, 52, 53, 54, 55]⟩ 3 2 w (by decide) (by decide) (by decide)
  rw [spl_ex] at C
  have CH := Lib.hid C
  have CJ := Lib.hid (fun (W : World) (ad : Addr) (c : Nat) (h : Tls W (some ad) 3 [⟨#[49, 50]⟩, ⟨#[51, 52]⟩, ⟨#[53, 54, 55]⟩]) => join_c (some ad) 3 c 10 _ ⟨#[44]⟩ W h (by decide) (by decide) (by decide) (by decide))
  clear C
  go_enter Try.func7, Try.ntmps7
  go_upto_region 2 with (first
    | (go_at_call 8; refine CH.out.mono ?_; rintro e w1 ⟨v, rfl, ho, hb⟩)
    | fail)
  obtain ⟨A, c, rfl⟩ := ho.out.form
  have HT := Lib.hid (Tls.of_own ho.out (by decide))
  obtain ⟨ad, rfl, hab, hc⟩ := HT.out.1.2 (by decide)
  have x0 : w1.cell? ad = some (.string ⟨#[49, 50]⟩) := hc 0 _ rfl
  have x1 : w1.cell? ⟨ad.block, ad.off + 1, none⟩ = some (.string ⟨#[51, 52]⟩) := hc 1 _ rfl
  have x2 : w1.cell? ⟨ad.block, ad.off + 2, none⟩ = some (.string ⟨#[53, 54, 55]⟩) := hc 2 _ rfl
  have HB := Lib.hid hb.out
  clear hc ho hb CH
  simp only [List.length_cons, List.length_nil, Nat.zero_add, Nat.reduceAdd] at HT ⊢
  go_wp2_with (first
    | (go_at_call 10; refine (CJ.out _ ad _ HT.out).mono ?_; rintro e W5 ⟨rfl, hb⟩)
    | fail)
  all_goals go_ret
  exact ⟨ret_bool (by kernel_rfl), HB.out.trans (hb.out.mono HB.out.size)⟩
end Go.Proofs.Ytiflkkmeloclfaa
