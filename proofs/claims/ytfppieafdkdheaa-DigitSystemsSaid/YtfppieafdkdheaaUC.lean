/-
  UC: the contracts of utf, and of the document's answers.
-/
import Derived.Test.YtfppieafdkdheaaUB
set_option maxRecDepth 100000
namespace Go.Proofs.Ytfppieafdkdheaa
open Go.RowKit
set_option maxHeartbeats 400000 in
theorem utfScalar_c (r : Int) (w : World) : Calls Try.prog 20 #[.int .i32 r] w fun e w' => e = .returned (.bool (isZ r)) ∧ w = w' := by
  by_cases h0 : 0 ≤ r
  · by_cases h1 : r ≤ 1114111
    · by_cases h2 : r < 55296
      · have hz : isZ r = true := isZ_iff.2 (by omega)
        rw [hz]
        go_enter Try.func20, Try.ntmps20
        go_wp2
        go_ret
        exact ⟨rfl, rfl⟩
      · by_cases h3 : 57343 < r
        · have hz : isZ r = true := isZ_iff.2 (by omega)
          rw [hz]
          go_enter Try.func20, Try.ntmps20
          go_wp2
          go_ret
          exact ⟨rfl, rfl⟩
        · have hz : isZ r = false := by rw [Bool.eq_false_iff]; intro h; have := isZ_iff.1 h; omega
          rw [hz]
          go_enter Try.func20, Try.ntmps20
          go_wp2
          go_ret
          exact ⟨rfl, rfl⟩
    · have hz : isZ r = false := by rw [Bool.eq_false_iff]; intro h; have := isZ_iff.1 h; omega
      rw [hz]
      go_enter Try.func20, Try.ntmps20
      go_wp2
      go_ret
      exact ⟨rfl, rfl⟩
  · have hz : isZ r = false := by rw [Bool.eq_false_iff]; intro h; have := isZ_iff.1 h; omega
    rw [hz]
    go_enter Try.func20, Try.ntmps20
    go_wp2
    go_ret
    exact ⟨rfl, rfl⟩
set_option maxHeartbeats 400000 in
theorem hasPrefix0_c (s t : ByteArray) (w : World) (_hs : s.size ≤ 1000000000000000) (_ht : t.size ≤ 1000000000000000) : Calls Try.prog 23 #[.string s, .string t] w fun e w' => e = .returned (.bool (pfx t s)) ∧ w = w' := by
  by_cases h1 : t.size ≤ s.size
  · have hp : pfx t s = ((s.extract 0 t.size).toList == t.toList) := by
      rw [toList_beq, bts_upto, pfx, decide_eq_true h1, Bool.true_and]
    rw [hp]
    clear hp
    go_enter Try.func23, Try.ntmps23
    go_wp2
    go_ret
    exact ⟨rfl, rfl⟩
  · have hp : pfx t s = false := by rw [pfx, decide_eq_false h1, Bool.false_and]
    rw [hp]
    go_enter Try.func23, Try.ntmps23
    go_wp2
    go_ret
    exact ⟨rfl, rfl⟩
set_option maxHeartbeats 400000 in
theorem hasPrefix_c (s t : ByteArray) (w : World) (hs : s.size ≤ 1000000000000000) (ht : t.size ≤ 1000000000000000) : Calls Try.prog 22 #[.string s, .string t] w fun e w' => e = .returned (.bool (pfx t s)) ∧ w = w' := by
  go_enter Try.func22, Try.ntmps22
  go_wp2_with fail
  refine (hasPrefix0_c s t w hs ht).mono ?_
  rintro e w' ⟨rfl, rfl⟩
  go_wp2
  go_ret
  exact ⟨rfl, rfl⟩
/-- The text of runes; none, if one is no code point. -/
def txtZ (zs : List Int) : ByteArray := if zs.all isZ = true then stz (encs (nats zs)) else ⟨#[]⟩
theorem txtZ_ok {zs : List Int} (h : zs.all isZ = true) : txtZ zs = stz (encs (nats zs)) := by simp [txtZ, h]
theorem txtZ_no {zs : List Int} (h : zs.all isZ = false) : txtZ zs = ⟨#[]⟩ := by simp [txtZ, h]
theorem getD_mem {zs : List Int} {k : Nat} (hk : k < zs.length) : zs.getD k 0 ∈ zs := by
  rw [List.getD, List.getElem?_eq_getElem hk]; exact List.getElem_mem hk
theorem all_getD {zs : List Int} (h : ∀ j, j < zs.length → isZ (zs.getD j 0) = true) : zs.all isZ = true := by
  refine List.all_eq_true.2 fun z hz => ?_
  obtain ⟨j, hj, rfl⟩ := List.mem_iff_getElem.1 hz
  have := h j hj
  rwa [List.getD, List.getElem?_eq_getElem hj] at this
theorem all_no {zs : List Int} {k : Nat} (hk : k < zs.length) (h : isZ (zs.getD k 0) = false) : zs.all isZ = false := by
  rcases ha : zs.all isZ with _ | _
  · rfl
  · rw [List.all_eq_true.1 ha _ (getD_mem hk)] at h; cases h
set_option maxHeartbeats 400000 in
theorem refScalar_c (r : Int) (w : World) : Calls Try.prog 18 #[.int .i32 r] w fun e w' => e = .returned (.bool (isZ r)) ∧ w = w' := by
  by_cases h0 : 0 ≤ r
  · by_cases h1 : r ≤ 1114111
    · by_cases h2 : r < 55296
      · have hz : isZ r = true := isZ_iff.2 (by omega)
        rw [hz]
        go_enter Try.func18, Try.ntmps18
        go_wp2
        go_ret
        exact ⟨rfl, rfl⟩
      · by_cases h3 : 57343 < r
        · have hz : isZ r = true := isZ_iff.2 (by omega)
          rw [hz]
          go_enter Try.func18, Try.ntmps18
          go_wp2
          go_ret
          exact ⟨rfl, rfl⟩
        · have hz : isZ r = false := by rw [Bool.eq_false_iff]; intro h; have := isZ_iff.1 h; omega
          rw [hz]
          go_enter Try.func18, Try.ntmps18
          go_wp2
          go_ret
          exact ⟨rfl, rfl⟩
    · have hz : isZ r = false := by rw [Bool.eq_false_iff]; intro h; have := isZ_iff.1 h; omega
      rw [hz]
      go_enter Try.func18, Try.ntmps18
      go_wp2
      go_ret
      exact ⟨rfl, rfl⟩
  · have hz : isZ r = false := by rw [Bool.eq_false_iff]; intro h; have := isZ_iff.1 h; omega
    rw [hz]
    go_enter Try.func18, Try.ntmps18
    go_wp2
    go_ret
    exact ⟨rfl, rfl⟩
/-- One, two, three, four bytes, in a new block. -/
theorem own_new {W : World} {base : Nat} (hb : base ≤ W.heap.size) (xs : List Nat) (vs : Array Value) (hv : vs.toList = u8s xs) (n : Nat) (hn : n = xs.length) (hm : n ≤ 1000) :
    (W.alloc (.cells vs 5)).ownsRow base 5 1 (.slice (some ⟨W.heap.size, 0, none⟩) n n) n (u8s xs) := by
  subst hn
  refine ⟨by simp [u8s], .inr ⟨W.heap.size, xs.length, vs, rfl, hb, heap_alloc_new W _, Nat.le_refl _, by unfold maxLen; omega, ?_, ?_⟩⟩
  · have := congrArg List.length hv
    simpa [u8s] using this
  · rw [hv, List.take_of_length_le (by simp [u8s])]
set_option maxHeartbeats 1000000 in
theorem refBytes_c (c : Nat) (w : World) (hc : isC c = true) : Calls Try.prog 19 #[.int .i32 (c : Int)] w fun e w' =>
    ∃ A m k, e = .returned (.slice A m k) ∧ w'.ownsRow w.heap.size 5 1 (.slice A m k) m (u8s (encN c)) ∧ m = (encN c).length ∧ Below w.heap.size w w' := by
  have hl := isC_le hc
  rcases encN_cases c with ⟨h1, he⟩ | ⟨h0, h1, he⟩ | ⟨h0, h1, he⟩ | ⟨h0, he⟩
  · have HE := Lib.hid he
    clear he
    go_enter Try.func19, Try.ntmps19
    go_wp2
    go_ret
    rw [HE.out]
    exact ⟨_, _, _, rfl, own_new (Nat.le_refl _) [c] _ rfl 1 rfl (by omega), rfl, (Below.refl _ _).alloc (Nat.le_refl _) _⟩
  · have HE := Lib.hid he
    have i0 : ¬ (c : Int) < 128 := by omega
    have i1 : (c : Int) < 2048 := by omega
    clear he
    go_enter Try.func19, Try.ntmps19
    go_wp2
    go_ret
    rw [HE.out]
    exact ⟨_, _, _, rfl, own_new (Nat.le_refl _) [192 + c / 64, 128 + c % 64] _ (by simp [u8s]) 2 rfl (by omega), rfl, (Below.refl _ _).alloc (Nat.le_refl _) _⟩
  · have HE := Lib.hid he
    have i0 : ¬ (c : Int) < 128 := by omega
    have i1 : ¬ (c : Int) < 2048 := by omega
    have i2 : (c : Int) < 65536 := by omega
    clear he
    go_enter Try.func19, Try.ntmps19
    go_wp2
    go_ret
    rw [HE.out]
    exact ⟨_, _, _, rfl, own_new (Nat.le_refl _) [224 + c / 4096, 128 + c / 64 % 64, 128 + c % 64] _ (by simp [u8s]) 3 rfl (by omega), rfl, (Below.refl _ _).alloc (Nat.le_refl _) _⟩
  · have HE := Lib.hid he
    have i0 : ¬ (c : Int) < 128 := by omega
    have i1 : ¬ (c : Int) < 2048 := by omega
    have i2 : ¬ (c : Int) < 65536 := by omega
    clear he
    go_enter Try.func19, Try.ntmps19
    go_wp2
    go_ret
    rw [HE.out]
    exact ⟨_, _, _, rfl, own_new (Nat.le_refl _) [240 + c / 262144, 128 + c / 4096 % 64, 128 + c / 64 % 64, 128 + c % 64] _ (by simp [u8s]) 4 rfl (by omega), rfl, (Below.refl _ _).alloc (Nat.le_refl _) _⟩
end Go.Proofs.Ytfppieafdkdheaa
